"""Derivations without cuts in which each knot knows how many types its row has."""

from phrasejoins.trees import from_inside


class Knot:
    """A knot with its place (None if it has none), its type if it is an "is", and its row's number of types."""

    def __init__(self, name, place, kind, parts):
        self.name = name
        self.place = place
        self.kind = kind
        self.parts = parts
        self.width = _width(name, parts)


def _width(name, parts):
    """How many types the row has that a knot without a cut tells."""
    if name == "is":
        return 1
    many = sum([part.width for part in parts])
    return many - 1 if name in ("over made", "under made", "then used") else many


def measured_knot(knot, parts):
    """A knot that is no cut, of those in it."""
    name = knot[0]
    if name == "is":
        return Knot(name, None, knot[1], [])
    if name in ("over made", "under made", "then made"):
        return Knot(name, None, None, parts)
    return Knot(name, knot[1], None, parts)


def place_used(knot):
    """The place of the type that a knot uses, None if it uses none."""
    if knot.name == "under used":
        return knot.place + knot.parts[0].width
    return knot.place


def tuple_of(knot):
    """The derivation of which a knot was made."""
    return from_inside(knot, _parts_of, _as_tuple)


def _parts_of(knot):
    return knot.parts


def _as_tuple(knot, parts):
    if knot.name == "is":
        return ("is", knot.kind)
    if knot.place is None:
        return (knot.name, *parts)
    return (knot.name, knot.place, *parts)
