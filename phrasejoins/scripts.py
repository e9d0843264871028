"""Scripts: lists of commands for a desk, played, judged and written down."""

from phrasejoins.commands import flat_lines, is_script, nested_script
from phrasejoins.deeds import carried_out
from phrasejoins.desk import Desk, check_desk
from phrasejoins.errors import InvalidPaper, InvalidPlace, InvalidScript, NothingToRedo, NothingToUndo, Refused
from phrasejoins.papers import kind_text, kind_told


def _check_script(script):
    """Raises InvalidScript unless this is a script."""
    if not is_script(script):
        raise InvalidScript(script)


def _done_with(desk, command):
    """What a command that is no try returns."""
    if command == ("undo",):
        return desk.undo()
    if command == ("redo",):
        return desk.redo()
    return carried_out(desk, command)


def _come_of(desk, command):
    """What comes of a command that is no try."""
    try:
        result = _done_with(desk, command)
    except InvalidPlace:
        return ("refused", "InvalidPlace")
    except Refused:
        return ("refused", "Refused")
    except NothingToUndo:
        return ("refused", "NothingToUndo")
    except NothingToRedo:
        return ("refused", "NothingToRedo")
    return ("told", result)


def _come_within(desk, script):
    """The tuple of the list of what comes within a try, up to what is refused, and whether nothing is."""
    came = []
    open_tries = [came]
    for command in flat_lines(script):
        if command == ("try",):
            within = []
            open_tries[-1].append(("tried", within))
            open_tries.append(within)
        elif command == ("end",):
            open_tries.pop()
        else:
            result = _come_of(desk, command)
            open_tries[-1].append(result)
            if result[0] == "refused":
                return (came, False)
    return (came, True)


def _come_of_try(desk, script):
    """What comes of a try: it is played in a block first, and only what is not refused there is played to be kept."""
    came, kept = desk.attempt(lambda inner: _come_within(inner, script))
    if kept:
        _come_within(desk, script)
    return ("tried", came)


def play(desk, script):
    """Carries commands out on a desk, one by one, and returns the list of what came of them."""
    check_desk(desk)
    _check_script(script)
    came = []
    for command in script:
        came.append(_come_of_try(desk, command[1]) if command[0] == "try" else _come_of(desk, command))
    return came


def end_of(goal, script):
    """The tuple of the row and whether it gives the goal that a new desk has behind a script."""
    desk = Desk(goal)
    play(desk, script)
    return (desk.row(), desk.gives())


def needless(goal, script):
    """The ascending list of the positions of the commands without which, one at a time, the end is the same."""
    end = end_of(goal, script)
    return [place for place in range(len(script)) if end_of(goal, script[:place] + script[place + 1:]) == end]


def _line_text(command):
    """The text of a command that is no try, or of the begin or the end of one."""
    return " ".join([command[0]] + [_thing_text(thing) for thing in command[1:]])


def _thing_text(thing):
    """The text of a place or of a type."""
    return str(thing) if isinstance(thing, int) else kind_text(thing)


def script_text(script):
    """The text of a script: a line for each command, those within a try further in."""
    _check_script(script)
    lines = []
    depth = 0
    for command in flat_lines(script):
        if command == ("end",):
            depth -= 1
        lines.append(" " * depth + _line_text(command))
        if command == ("try",):
            depth += 1
    return "\n".join(lines)


def _place_told(figures):
    """The count that is written in figures, None if it is none."""
    return int(figures) if figures.isdecimal() else None


def _line_told(line):
    """The command, or begin or end of a try, of which a line may be the text; None if there is none."""
    name, _, things = line.lstrip(" ").partition(" ")
    figures, _, kind = things.partition(" ")
    if name in ("undo", "redo", "try", "end"):
        return (name,)
    if name in ("take", "use"):
        return (name, _place_told(figures))
    return (name, _place_told(figures), kind_told(kind))


def read_script(text):
    """The script with a text."""
    if not isinstance(text, str):
        raise InvalidPaper(text)
    script = nested_script([_line_told(line) for line in text.split("\n")] if text else [])
    # What was read is judged by writing it again, so whatever a line has too much or too little is seen.
    if not is_script(script) or script_text(script) != text:
        raise InvalidPaper(text)
    return script
