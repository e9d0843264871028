"""Going through what is nested, however deep, without a call within a call."""


def nodes_in(root, parts_of):
    """The list of a node and all in it, each ahead of its parts, a later part ahead of an earlier one."""
    waiting = [root]
    nodes = []
    while waiting:
        node = waiting.pop()
        nodes.append(node)
        waiting.extend(parts_of(node))
    return nodes


def from_inside(root, parts_of, at_node):
    """What comes of a node from the inside out: of each node and the list of what came of its parts."""
    came = []
    for node in reversed(nodes_in(root, parts_of)):
        begin = len(came) - len(parts_of(node))
        parts = came[begin:]
        del came[begin:]
        came.append(at_node(node, parts))
    return came[0]
