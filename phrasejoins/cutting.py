"""Cuts taken out of derivations, each moved inwards until nothing is left to cut.

No row is searched for it, and no knot is ever doubled, so it is short however
many signs the goal has.
"""

from phrasejoins.knots import folded_knots
from phrasejoins.measured import Knot, measured_knot, place_used, tuple_of

_MADE = ("over made", "under made", "then made")


def derivation_without_cuts(derivation):
    """A derivation without cuts that tells what a derivation tells."""
    return tuple_of(folded_knots(derivation, _knot_at))


def _knot_at(knot, parts):
    """A knot, of those in it, as one without cuts."""
    if knot[0] == "cut":
        return _cut_away(parts[0], parts[1], knot[1])
    return measured_knot(knot, parts)


def _cut_away(one, other, place):
    """The knot that tells what the cut of two knots without cuts tells, at a place of the other one's row.

    Around the cut at hand stand open knots, the innermost last, each a name, a
    place and parts of which the one that is not yet made is None.
    """
    around = []
    while True:
        done = _at_once(one, other)
        if done is None:
            open_knot, one, other, place = _moved(one, other, place)
            around.append(open_knot)
            continue
        while around and around[-1][0] != "cut":
            name, at, parts = around.pop()
            done = Knot(name, at, None, _filled(parts, done))
        if not around:
            return done
        name, place, parts = around.pop()
        one, other = _filled(parts, done)


def _filled(parts, done):
    return [done if part is None else part for part in parts]


def _at_once(one, other):
    """What the cut of two knots comes to where one of them only says that a type is itself, None elsewhere."""
    if one.name == "is":
        return other
    if other.name == "is":
        return one
    return None


def _moved(one, other, place):
    """The open knot around a cut that is one step further in, and this cut's two knots and place."""
    if one.name not in _MADE:
        return _moved_into_one(one, other, place)
    if place == place_used(other):
        return _met(one, other)
    if other.name in _MADE:
        return _moved_into_made(one, other, place)
    if other.name == "then used":
        return _moved_into_then(one, other, place)
    return _moved_into_used(one, other, place)


def _moved_into_one(one, other, place):
    """The last knot of the one uses a type of its row: this may as well be done behind the cut."""
    return (one.name, place + one.place, one.parts[:-1] + [None]), one.parts[-1], other, place


def _met(one, other):
    """The type is made last in the one and used last in the other: its two parts are cut instead."""
    if other.name == "then used":
        first, second = one.parts
        return ("cut", other.place, [first, None]), second, other.parts[0], other.place + 1
    taken, rest = other.parts
    inner = one.parts[0]
    place = one.width if one.name == "over made" else 0
    return ("cut", other.place, [None, rest]), taken, inner, place


def _moved_into_made(one, other, place):
    """The other's last knot makes its goal."""
    if other.name == "over made":
        return (other.name, None, [None]), one, other.parts[0], place
    if other.name == "under made":
        return (other.name, None, [None]), one, other.parts[0], place + 1
    first, second = other.parts
    if place < first.width:
        return (other.name, None, [None, second]), one, first, place
    return (other.name, None, [first, None]), one, second, place - first.width


def _moved_into_then(one, other, place):
    """The other's last knot uses a "then" at another place."""
    if place < other.place:
        return (other.name, other.place + one.width - 1, [None]), one, other.parts[0], place
    return (other.name, other.place, [None]), one, other.parts[0], place + 1


def _moved_into_used(one, other, place):
    """The other's last knot uses an "over" or an "under" at another place."""
    taken, rest = other.parts
    begin = other.place + 1 if other.name == "over used" else other.place
    if begin <= place < begin + taken.width:
        return (other.name, other.place, [None, rest]), one, taken, place - begin
    if place < other.place:
        return (other.name, other.place + one.width - 1, [taken, None]), one, rest, place
    return (other.name, other.place, [taken, None]), one, rest, place - taken.width
