"""Steps that are known by name: raising, composing, dividing, swapping, parting and packing.

A, B, C and D in the comments are the parts of the types, as the document calls them.
"""

from phrasejoins.errors import InvalidWord, Refused
from phrasejoins.forms import check_kind, has_sign


def _over(derivation, kind):
    """The derivation with the first type of its row over another one, this one behind it."""
    return ("over used", 0, ("is", kind), derivation)


def _under(derivation, kind):
    """The derivation with the first type of its row under another one, this one ahead of it."""
    return ("under used", 0, ("is", kind), derivation)


def raising(kind, goal, word):
    """The derivation of a type and of the goal over, or under, what waits for the type to give the goal."""
    check_kind(kind)
    check_kind(goal)
    if word == "over":
        return ("over made", _under(("is", goal), kind))
    if word == "under":
        return ("under made", _over(("is", goal), kind))
    raise InvalidWord(word)


def _composed_over(given, between, behind):
    """The derivation of A over B, B over C and C, and of A."""
    return ("over used", 1, ("is", behind), _over(("is", given), between))


def _composed_under(ahead, between, given):
    """The derivation of C, C under B and B under A, and of A."""
    return _under(_under(("is", given), between), ahead)


def composing(one, other):
    """The derivation of A over B and B over C, and of A over C; or the same with "under"."""
    check_kind(one)
    check_kind(other)
    if has_sign(one, "over") and has_sign(other, "over") and one[2] == other[1]:
        return ("over made", _composed_over(one[1], one[2], other[2]))
    if has_sign(one, "under") and has_sign(other, "under") and one[2] == other[1]:
        return ("under made", _composed_under(one[1], one[2], other[2]))
    raise Refused(other)


def dividing(kind, divisor):
    """The derivation of A over B, and of the same with A over D for A and B over D for B; or with "under"."""
    check_kind(kind)
    check_kind(divisor)
    if has_sign(kind, "over"):
        return ("over made", ("over made", _composed_over(kind[1], kind[2], divisor)))
    if has_sign(kind, "under"):
        return ("under made", ("under made", _composed_under(divisor, kind[1], kind[2])))
    raise Refused(kind)


def swapping(kind):
    """The derivation of B under A, over C, and of B under A over C; or the other way."""
    check_kind(kind)
    if has_sign(kind, "over") and has_sign(kind[1], "under"):
        _, (_, ahead, given), behind = kind
        used = ("over used", 1, ("is", behind), _under(("is", given), ahead))
        return ("under made", ("over made", used))
    if has_sign(kind, "under") and has_sign(kind[2], "over"):
        _, ahead, (_, given, behind) = kind
        used = _under(_over(("is", given), behind), ahead)
        return ("over made", ("under made", used))
    raise Refused(kind)


def parting(kind):
    """The derivation of A over the "then" of B and C, and of A over C over B; or the same with "under"."""
    check_kind(kind)
    if has_sign(kind, "over") and has_sign(kind[2], "then"):
        _, given, (_, first, second) = kind
        both = ("then made", ("is", first), ("is", second))
        return ("over made", ("over made", ("over used", 0, both, ("is", given))))
    if has_sign(kind, "under") and has_sign(kind[1], "then"):
        _, (_, first, second), given = kind
        both = ("then made", ("is", first), ("is", second))
        return ("under made", ("under made", ("under used", 0, both, ("is", given))))
    raise Refused(kind)


def packing(kind):
    """The derivation of A over C over B, and of A over the "then" of B and C; or the same with "under"."""
    check_kind(kind)
    if has_sign(kind, "over") and has_sign(kind[1], "over"):
        _, (_, given, second), first = kind
        used = _over(_over(("is", given), second), first)
        return ("over made", ("then used", 1, used))
    if has_sign(kind, "under") and has_sign(kind[2], "under"):
        _, second, (_, first, given) = kind
        used = ("under used", 1, ("is", second), _under(("is", given), first))
        return ("under made", ("then used", 0, used))
    raise Refused(kind)
