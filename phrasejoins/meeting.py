"""Types above two others that one type gives, types below two others that give one type, and both along chains.

Each of raising and lowering takes two derivations that meet in a type, and
returns the list of a type and the derivations between it and the other ends.
"""

from phrasejoins.chains import chain_of
from phrasejoins.knots import telling_of
from phrasejoins.steps import ends_of_step


def raised_from(first, second):
    """The type above the goals of two derivations of one low type, and the derivations that tell it."""
    row, one = telling_of(first)
    low = row[0]
    other = telling_of(second)[1]
    kind = ("under", ("over", low, one), ("over", low, ("under", other, low)))
    mine = ("over used", 0, ("is", one), ("under used", 0, second, ("is", low)))
    theirs = ("under used", 1, ("is", other), ("over used", 0, first, ("is", low)))
    return [kind, ("under made", ("over made", mine)), ("under made", ("over made", theirs))]


def lowered_to(first, second):
    """The type below the types of two derivations of one high goal, and the derivations that tell it."""
    row, high = telling_of(first)
    one = row[0]
    other = telling_of(second)[0][0]
    kind = ("then", ("then", ("over", one, high), high), ("under", high, other))
    mine = ("over used", 0, ("under used", 0, ("is", high), second), ("is", one))
    theirs = ("under used", 0, ("over used", 0, ("is", high), first), ("is", other))
    return [kind, ("then used", 0, ("then used", 0, mine)), ("then used", 0, ("then used", 0, theirs))]


def _in_one(first, later):
    """The derivation of the first one's type and the later one's goal, the type in which they meet."""
    if first[0] == "is":
        return later
    return first if later[0] == "is" else ("cut", 0, first, later)


def _in_other_order(later, first):
    return _in_one(first, later)


def above_all(kinds):
    """The derivations of some alike types, each alone, and of one type that is above all of them."""
    return _meeting(kinds, "on", raised_from, _in_one)


def below_all(kinds):
    """The derivations of one type alone, that is below some alike types, and of these."""
    return _meeting(kinds, "back", lowered_to, _in_other_order)


def _meeting(kinds, way, meet, put):
    """The derivations between some alike types and one that comes of them all, in the order of the types.

    The chains from each type to the next one are gone along; the type that has
    come so far changes at each step of one way, and with it the derivations.
    """
    different = [kind for place, kind in enumerate(kinds) if kind not in kinds[:place]]
    found = [("is", different[0])]
    for place in range(1, len(different)):
        found.append(found[-1])
        for step in chain_of(different[place - 1], different[place]):
            found = _gone_along(found, step, way, meet, put)
    return [found[different.index(kind)] for kind in kinds]


def _gone_along(found, step, way, meet, put):
    """The derivations with the last one from where a step leads to; it was from where the step begins."""
    last, derivation = found[-1], step[1]
    if step[0] != way:
        return found[:-1] + [put(derivation, last)]
    if last[0] == "is":
        return [put(one, derivation) for one in found[:-1]] + [("is", ends_of_step(step)[1])]
    _, mine, theirs = meet(last, derivation)
    return [put(one, mine) for one in found[:-1]] + [theirs]
