"""The ways in which a derivation may end, over rows and goals of a pool's numbers.

A way is a tuple of the name of the last knot, its place (None if it has none)
and the list of the tuples (row, goal) that the derivations in it have to tell.
"""


def ways_back(pool, row, goal):
    """All ways but by "is" and by "cut", in the order that steps_back tells."""
    ways = _goal_ways(pool, row, goal)
    for place in range(len(row)):
        ways.extend(_place_ways(pool, row, goal, place))
    return ways


def _goal_ways(pool, row, goal):
    """The ways in which the goal is made last."""
    sign, first, second = pool.shapes[goal]
    if sign == "over":
        return [("over made", None, [(row + (second,), first)])]
    if sign == "under":
        return [("under made", None, [((first,) + row, second)])]
    if sign == "then":
        return [
            ("then made", None, [(row[:many], first), (row[many:], second)])
            for many in range(1, len(row))
        ]
    return []


def _place_ways(pool, row, goal, place):
    """The ways in which the type at a place is used last."""
    sign, first, second = pool.shapes[row[place]]
    if sign == "over":
        return [
            ("over used", place, [(row[place + 1:end], second), (row[:place] + (first,) + row[end:], goal)])
            for end in range(place + 2, len(row) + 1)
        ]
    if sign == "under":
        return [
            ("under used", begin, [(row[begin:place], first), (row[:begin] + (second,) + row[place + 1:], goal)])
            for begin in range(place - 1, -1, -1)
        ]
    if sign == "then":
        return [("then used", place, [(row[:place] + (first, second) + row[place + 1:], goal)])]
    return []
