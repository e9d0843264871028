"""Commands of scripts, tries within tries gone through line by line."""

from phrasejoins.deeds import is_deed


def _is_try(value):
    """Whether any object is a try, whatever is within it."""
    return isinstance(value, tuple) and len(value) == 2 and value[0] == "try"


def is_script(value):
    """Whether any object is a script."""
    waiting = [(value, False)]
    while waiting:
        script, is_within = waiting.pop()
        if not isinstance(script, list):
            return False
        for command in script:
            if _is_try(command):
                waiting.append((command[1], True))
            elif not is_deed(command) and (is_within or command not in (("undo",), ("redo",))):
                return False
    return True


def flat_lines(script):
    """The list of the commands of a script, a try as ("try",), those within it and ("end",)."""
    waiting = list(reversed(script))
    lines = []
    while waiting:
        command = waiting.pop()
        if _is_try(command):
            lines.append(("try",))
            waiting.append(("end",))
            waiting.extend(list(reversed(command[1])))
        else:
            lines.append(command)
    return lines


def nested_script(lines):
    """The script with these lines, None if some try has no begin or no end."""
    open_scripts = [[]]
    for line in lines:
        if line == ("try",):
            open_scripts.append([])
        elif line == ("end",):
            within = open_scripts.pop()
            if not open_scripts:
                return None
            open_scripts[-1].append(("try", within))
        else:
            open_scripts[-1].append(line)
    return open_scripts[0] if len(open_scripts) == 1 else None
