"""Lots: which things of a world types and rows stand for."""

from phrasejoins.forms import folded
from phrasejoins.values import is_word


def are_lots(value, things):
    """Whether any object is lots of plain types, of these things."""
    if not isinstance(value, dict) or not value:
        return False
    return all([is_word(word) and _is_lot(lot, things) for word, lot in value.items()])


def _is_lot(value, things):
    """Whether any object is an ascending list of some of these things."""
    if not isinstance(value, list) or not all([thing in things for thing in value]):
        return False
    return all([value[place] < value[place + 1] for place in range(len(value) - 1)])


class Lots:
    """A table, its things, and what was reckoned of lots; a lot is an ascending tuple of things."""

    def __init__(self, table, everything):
        self.comes = table
        self.everything = everything
        # By a sign and two lots.
        self.signed = {}

    def lot_in(self, kind, plain_lots):
        """The lot of a type, by those of the plain types."""
        return folded(kind, lambda word: tuple(plain_lots[word]),
                      lambda sign, first, second: self.signed_lot(sign, first, second))

    def lot_along(self, row, plain_lots):
        """The lot of a row: as if its types were put together by "then"."""
        lot = self.lot_in(row[0], plain_lots)
        for kind in row[1:]:
            lot = self.signed_lot("then", lot, self.lot_in(kind, plain_lots))
        return lot

    def signed_lot(self, sign, first, second):
        """The lot of a type by its sign and the lots of its two parts, reckoned once."""
        asked = (sign, first, second)
        if asked not in self.signed:
            self.signed[asked] = self.reckoned(sign, first, second)
        return self.signed[asked]

    def reckoned(self, sign, first, second):
        """The lot of a type by its sign and the lots of its two parts."""
        if sign == "over":
            return tuple([x for x in self.everything if all([self.comes[(x, y)] in first for y in second])])
        if sign == "under":
            return tuple([x for x in self.everything if all([self.comes[(y, x)] in second for y in first])])
        return tuple(sorted(set([self.comes[(x, y)] for x in first for y in second])))

    def ways_along(self, row, plain_lots):
        """The dictionary from things to the number of ways in which they come of one of each lot of a row's types."""
        ways = {thing: 1 for thing in self.lot_in(row[0], plain_lots)}
        for kind in row[1:]:
            ways = self.ways_on(ways, self.lot_in(kind, plain_lots))
        return ways

    def ways_on(self, ways, lot):
        """The ways with one thing of a lot behind each."""
        longer = {}
        for thing in ways:
            for other in lot:
                end = self.comes[(thing, other)]
                longer[end] = longer.get(end, 0) + ways[thing]
        return longer
