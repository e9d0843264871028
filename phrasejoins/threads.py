"""Threads: which plain types a derivation without cuts links.

What a knot tells is kept as a row and a goal in which each type is the list of
the numbers of the links of its plain types, in the order of its letters,
nothing cancelled. Each link stands in two places.
"""

from phrasejoins.forms import kinds_in
from phrasejoins.knots import folded_knots


def _signed_links(sign, first, second):
    """The links of a type by its sign and those of its two parts."""
    if sign == "over":
        return first + second[::-1]
    if sign == "under":
        return first[::-1] + second
    return first + second


class Threads:
    """The links of a derivation, which are numbered as they come up."""

    def __init__(self):
        self.numbered_to = 0

    def told_at(self, knot, parts):
        """The row and the goal of a knot, by those of the knots in it."""
        name = knot[0]
        if name == "is":
            links = self.new_links(knot[1])
            return ([links], links)
        row, goal = parts[0]
        if name == "over made":
            return (row[:-1], _signed_links("over", goal, row[-1]))
        if name == "under made":
            return (row[1:], _signed_links("under", row[0], goal))
        if name == "then made":
            later_row, later_goal = parts[1]
            return (row + later_row, _signed_links("then", goal, later_goal))
        return _told_using(name, knot[1], parts)

    def new_links(self, kind):
        """As many new links as plain types stand in a type."""
        begin = self.numbered_to
        self.numbered_to += len([part for part in kinds_in(kind) if isinstance(part, str)])
        return list(range(begin, self.numbered_to))


def _told_using(name, place, parts):
    """The row and the goal of a knot that uses a type, by those of the knots in it."""
    row, goal = parts[-1]
    if name == "then used":
        used = _signed_links("then", row[place], row[place + 1])
        return (row[:place] + [used] + row[place + 2:], goal)
    taken, wanted = parts[0]
    if name == "over used":
        middle = [_signed_links("over", row[place], wanted)] + taken
    else:
        middle = taken + [_signed_links("under", wanted, row[place])]
    return (row[:place] + middle + row[place + 1:], goal)


def links_in(derivation):
    """The ascending list of the tuples of two spots that a derivation without cuts links."""
    threads = Threads()
    row, goal = folded_knots(derivation, lambda knot, parts: threads.told_at(knot, parts))
    spots = [link for links in row + [goal[::-1]] for link in links]
    places = [[] for _ in range(threads.numbered_to)]
    for spot, link in enumerate(spots):
        places[link].append(spot)
    return sorted([(lesser, greater) for lesser, greater in places])
