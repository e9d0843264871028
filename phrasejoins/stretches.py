"""Types between a stretch of a row and the rest, found along a derivation without cuts.

To each knot in whose row a part of the stretch stands belongs a stretch of this
row, and of it comes a tuple: a type between, an inner derivation that tells the
stretch and it, and an outer one that tells the row with it in the stretch's
place and the knot's goal.
"""

from phrasejoins.knots import folded_knots
from phrasejoins.measured import measured_knot, place_used, tuple_of
from phrasejoins.trees import from_inside


def between_along(derivation, first, last):
    """The tuple of a type between and its two derivations, for a stretch of the row of a derivation without cuts."""
    root = folded_knots(derivation, measured_knot)
    return from_inside((root, (first, last)), _with_stretches, _between_at)


def _with_stretches(node):
    """The knots in a knot, each with its stretch; a knot that has none is not gone into."""
    knot, stretch = node
    if stretch is None:
        return []
    return list(zip(knot.parts, _stretches(knot, stretch[0], stretch[1])))


def _stretches(knot, first, last):
    """The list of the stretches of the knots in a knot, None for one without."""
    if knot.name == "is":
        return []
    if knot.name == "over made":
        return [(first, last)]
    if knot.name == "under made":
        return [(first + 1, last + 1)]
    if knot.name == "then made":
        middle = knot.parts[0].width
        return [_met(first, last, 0, middle), _met(first, last, middle, knot.width)]
    if knot.name == "then used":
        begin = first if first <= knot.place else first + 1
        end = last if last <= knot.place else last + 1
        return [(begin, end)]
    return _stretches_using(knot, first, last)


def _met(first, last, begin, end):
    """What of a stretch stands between two places, counted from the first of these; None if nothing does."""
    if last <= begin or end <= first:
        return None
    return (max(first, begin) - begin, min(last, end) - begin)


def _stretches_using(knot, first, last):
    """The stretches of the two knots in an "over used" or "under used"."""
    width = knot.parts[0].width
    end = knot.place + width + 1
    if _uses_within(knot, first, last):
        if first <= knot.place and end <= last:
            return [None, (first, last - width)]
        # Not all that is taken stands in the stretch: the type between has to wait for the rest of it.
        if knot.name == "over used":
            return [(last - knot.place - 1, width), (first, knot.place + 1)]
        return [(0, first - knot.place), (knot.place, last - width)]
    begin = knot.place + 1 if knot.name == "over used" else knot.place
    taken = _met(first, last, begin, begin + width)
    if first < knot.place:
        return [taken, (first, min(last, knot.place))]
    if end < last:
        return [taken, (max(first, end) - width, last - width)]
    return [taken, None]


def _uses_within(knot, first, last):
    """Whether the type that a knot uses stands in a stretch."""
    return first <= place_used(knot) < last


def _between_at(node, came):
    """What comes of a knot with its stretch, by what came of those in it; without a stretch, its derivation."""
    knot, stretch = node
    if stretch is None:
        return tuple_of(knot)
    first, last = stretch
    if knot.name == "is":
        return (knot.kind, ("is", knot.kind), ("is", knot.kind))
    if knot.name in ("over made", "under made"):
        kind, inner, outer = came[0]
        return (kind, inner, (knot.name, outer))
    if knot.name == "then made":
        return _between_then_made(knot, first, last, came)
    if knot.name == "then used":
        return _between_then_used(knot, first, last, came)
    return _between_using(knot, first, last, came)


def _between_then_made(knot, first, last, came):
    one, other = came
    middle = knot.parts[0].width
    if last <= middle:
        kind, inner, outer = one
        return (kind, inner, ("then made", outer, other))
    if middle <= first:
        kind, inner, outer = other
        return (kind, inner, ("then made", one, outer))
    outer = ("then made", one[2], other[2])
    return (("then", one[0], other[0]), ("then made", one[1], other[1]), ("then used", first, outer))


def _between_then_used(knot, first, last, came):
    kind, inner, outer = came[0]
    if _uses_within(knot, first, last):
        return (kind, ("then used", knot.place - first, inner), outer)
    return (kind, inner, ("then used", _place_around(knot, first, last), outer))


def _place_around(knot, first, last):
    """The place of a knot where one type stands for a stretch that is all ahead of it or all behind it."""
    return knot.place if knot.place < first else knot.place - (last - first) + 1


def _between_using(knot, first, last, came):
    """What comes of an "over used" or "under used"."""
    taken_stretch, rest_stretch = _stretches_using(knot, first, last)
    taken, rest = came
    if rest_stretch is None:
        kind, inner, outer = taken
        return (kind, inner, (knot.name, knot.place, outer, rest))
    within = _uses_within(knot, first, last)
    if taken_stretch is not None:
        return _between_waiting(knot, first, taken, rest) if within else _between_two(knot, first, taken, rest)
    kind, inner, outer = rest
    if within:
        return (kind, (knot.name, knot.place - first, taken, inner), outer)
    return (kind, inner, (knot.name, _place_around(knot, first, last), taken, outer))


def _between_waiting(knot, first, taken, rest):
    """The type used stands in the stretch, some of what it takes outside of it."""
    if knot.name == "over used":
        used = ("over used", knot.place - first, taken[2], rest[1])
        return (("over", rest[0], taken[0]), ("over made", used), ("over used", first, taken[1], rest[2]))
    used = ("under used", 0, taken[2], rest[1])
    return (("under", taken[0], rest[0]), ("under made", used), ("under used", knot.place, taken[1], rest[2]))


def _between_two(knot, first, taken, rest):
    """The stretch has some of what the type used takes and some of what stands beyond, but not this type."""
    if knot.name == "over used":
        kind, inner = ("then", taken[0], rest[0]), ("then made", taken[1], rest[1])
        used = ("over used", knot.place, taken[2], rest[2])
    else:
        kind, inner = ("then", rest[0], taken[0]), ("then made", rest[1], taken[1])
        used = ("under used", first + 1, taken[2], rest[2])
    return (kind, inner, ("then used", first, used))
