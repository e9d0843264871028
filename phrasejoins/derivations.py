"""Derivations: whether something is one, what it tells, and others made of it."""

from phrasejoins.checks import check_asked
from phrasejoins.errors import InvalidDerivation, InvalidPlace, Refused
from phrasejoins.forms import check_map, folded, plains_in, put_in, turned
from phrasejoins.knots import folded_knots, knots_in, telling_of, with_parts
from phrasejoins.values import is_count

_TURNED_NAMES = {
    "over made": "under made",
    "under made": "over made",
    "then made": "then made",
    "over used": "under used",
    "under used": "over used",
    "then used": "then used",
    "cut": "cut",
}


def is_derivation(value):
    """Whether any object is a derivation."""
    return telling_of(value) is not None


def check_derivation(derivation):
    """Raises InvalidDerivation unless this is a derivation."""
    if not is_derivation(derivation):
        raise InvalidDerivation(derivation)


def told_by(derivation):
    """The tuple of the row and the goal that a derivation tells."""
    told = telling_of(derivation)
    if told is None:
        raise InvalidDerivation(derivation)
    return told


def is_derivation_of(row, goal, value):
    """Whether any object is a derivation that tells a row and a goal."""
    check_asked(row, goal)
    return telling_of(value) == (row, goal)


def knots_of(derivation):
    """How many knots a derivation has."""
    check_derivation(derivation)
    return len(knots_in(derivation))


def cuts_of(derivation):
    """How many knots of a derivation are cuts."""
    check_derivation(derivation)
    return len([knot for knot in knots_in(derivation) if knot[0] == "cut"])


def _turned_placed(knot, parts):
    """A knot with a place and how many types its row has, turned about; parts are such tuples."""
    name = knot[0]
    turned_parts = [part[0] for part in parts]
    width = parts[-1][1]
    # Of the two types that a "then used" takes, the second one stands first when turned about.
    taken = 2 if name == "then used" else 1
    turned_knot = (_TURNED_NAMES[name], width - taken - knot[1], *turned_parts)
    if name == "then used":
        return (turned_knot, width - 1)
    if name == "cut":
        return (turned_knot, parts[0][1] + width - 1)
    return (turned_knot, parts[0][1] + width)


def _turned_knot(knot, parts):
    """A knot turned about and how many types its row has, by such tuples of those in it."""
    name = knot[0]
    if name == "is":
        return (("is", turned(knot[1])), 1)
    if name == "then made":
        (one, width), (other, other_width) = parts
        return (("then made", other, one), width + other_width)
    if name in ("over made", "under made"):
        part, width = parts[0]
        return ((_TURNED_NAMES[name], part), width - 1)
    return _turned_placed(knot, parts)


def turned_derivation(derivation):
    """The derivation turned about, which tells the row and the goal turned about."""
    check_derivation(derivation)
    return folded_knots(derivation, _turned_knot)[0]


def with_put(derivation, sent):
    """The derivation with its plain types replaced as a dictionary tells."""
    check_derivation(derivation)
    check_map(sent, plains_in([knot[1] for knot in knots_in(derivation) if knot[0] == "is"]))

    def put_at(knot, parts):
        if knot[0] == "is":
            return ("is", put_in(knot[1], sent))
        return with_parts(knot, parts)

    return folded_knots(derivation, put_at)


def _plain_step(sign, first, second):
    """The derivation of a type from itself, by such ones of its two parts."""
    if sign == "over":
        return ("over made", ("over used", 0, second, first))
    if sign == "under":
        return ("under made", ("under used", 0, first, second))
    return ("then used", 0, ("then made", first, second))


def _plain_knot(knot, parts):
    """A knot in which "is" is used of plain types alone."""
    if knot[0] == "is":
        return folded(knot[1], lambda word: ("is", word), _plain_step)
    return with_parts(knot, parts)


def plain_out(derivation):
    """A derivation that tells the same, with as many cuts, in which "is" is used of plain types alone."""
    check_derivation(derivation)
    return folded_knots(derivation, _plain_knot)


def cut_in(one, other, place):
    """The cut of two derivations at a place of the other one's row."""
    goal = told_by(one)[1]
    row = told_by(other)[0]
    if not is_count(place) or place >= len(row):
        raise InvalidPlace(place)
    if row[place] != goal:
        raise Refused(one)
    return ("cut", place, one, other)
