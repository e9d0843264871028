"""The knots of derivations: their form, the order of going through them, what they tell."""

from phrasejoins.forms import is_kind
from phrasejoins.trees import from_inside, nodes_in
from phrasejoins.values import is_count

# How many derivations stand in a knot of each name.
_MANY_PARTS = {
    "is": 0,
    "over made": 1,
    "under made": 1,
    "then made": 2,
    "over used": 2,
    "under used": 2,
    "then used": 1,
    "cut": 2,
}
_PLACED = ("over used", "under used", "then used", "cut")


def _parts_begin(name):
    """Where in a knot the derivations in it begin: behind the name, and behind the place if it has one."""
    return 2 if name in _PLACED else 1


def parts_of_knot(knot):
    """The tuple of the derivations in a knot."""
    return () if knot[0] == "is" else knot[_parts_begin(knot[0]):]


def with_parts(knot, parts):
    """A knot that is no "is" with other derivations in it."""
    return knot[:_parts_begin(knot[0])] + tuple(parts)


def _has_form(value):
    """Whether any object is a knot as far as can be seen without looking into the derivations in it."""
    if not isinstance(value, tuple) or not value:
        return False
    name = value[0]
    if not isinstance(name, str) or name not in _MANY_PARTS:
        return False
    if name == "is":
        return len(value) == 2 and is_kind(value[1])
    if len(value) != _parts_begin(name) + _MANY_PARTS[name]:
        return False
    return name not in _PLACED or is_count(value[1])


def _are_all_knots(value):
    """Whether any object, and all that stands in it where derivations stand, has the form of a knot."""
    waiting = [value]
    while waiting:
        knot = waiting.pop()
        if not _has_form(knot):
            return False
        waiting.extend(parts_of_knot(knot))
    return True


def knots_in(derivation):
    """The list of the knots of a derivation."""
    return nodes_in(derivation, parts_of_knot)


def folded_knots(derivation, at_knot):
    """What comes of a derivation from the inside out: of each knot and the list of what came of those in it."""
    return from_inside(derivation, parts_of_knot, at_knot)


def _tell_is(knot, told):
    return ([knot[1]], knot[1])


def _tell_over_made(knot, told):
    row, goal = told[0]
    if len(row) < 2:
        return None
    return (row[:-1], ("over", goal, row[-1]))


def _tell_under_made(knot, told):
    row, goal = told[0]
    if len(row) < 2:
        return None
    return (row[1:], ("under", row[0], goal))


def _tell_then_made(knot, told):
    (row, goal), (later_row, later_goal) = told
    return (row + later_row, ("then", goal, later_goal))


def _tell_over_used(knot, told):
    place = knot[1]
    (taken, wanted), (row, goal) = told
    if place >= len(row):
        return None
    return (row[:place] + [("over", row[place], wanted)] + taken + row[place + 1:], goal)


def _tell_under_used(knot, told):
    place = knot[1]
    (taken, wanted), (row, goal) = told
    if place >= len(row):
        return None
    return (row[:place] + taken + [("under", wanted, row[place])] + row[place + 1:], goal)


def _tell_then_used(knot, told):
    place = knot[1]
    row, goal = told[0]
    if place + 1 >= len(row):
        return None
    return (row[:place] + [("then", row[place], row[place + 1])] + row[place + 2:], goal)


def _tell_cut(knot, told):
    place = knot[1]
    (taken, wanted), (row, goal) = told
    if place >= len(row) or row[place] != wanted:
        return None
    return (row[:place] + taken + row[place + 1:], goal)


_TELLERS = {
    "is": _tell_is,
    "over made": _tell_over_made,
    "under made": _tell_under_made,
    "then made": _tell_then_made,
    "over used": _tell_over_used,
    "under used": _tell_under_used,
    "then used": _tell_then_used,
    "cut": _tell_cut,
}


def _tell(knot, told):
    """What a knot tells by what those in it tell; None if it or one of those does not tell anything."""
    if None in told:
        return None
    teller = _TELLERS[knot[0]]
    return teller(knot, told)


def telling_of(value):
    """The tuple of the row and the goal that any object tells, None if it is no derivation."""
    return folded_knots(value, _tell) if _are_all_knots(value) else None
