"""Chains of types, each giving the next or given by it."""

from phrasejoins.errors import InvalidChain, InvalidKind, InvalidWord, Refused
from phrasejoins.forms import check_kind, has_sign, plains_in
from phrasejoins.group import letters_in
from phrasejoins.roads import road_to_form
from phrasejoins.steps import all_first, all_second, gone_back_through, kinds_through, made_short
from phrasejoins.values import are_different, is_word

_WORDS = ("over", "under", "then")


def _is_chain_between(one, other, value):
    """Whether any object is a chain from one type to another."""
    kinds = kinds_through(value)
    if kinds is None:
        return False
    return kinds[0] == one and kinds[-1] == other if kinds else one == other


def is_chain(one, other, value):
    """Whether any object is a chain from one type to another."""
    check_kind(one)
    check_kind(other)
    return _is_chain_between(one, other, value)


def are_alike(one, other):
    """Whether there is a chain from one type to another: whether they have the same letters."""
    check_kind(one)
    check_kind(other)
    return letters_in(one) == letters_in(other)


def chain_of(one, other):
    """A chain from one type to another, None if they are not alike."""
    if not are_alike(one, other):
        return None
    plain = plains_in([one, other])[0]
    return made_short(road_to_form(one, plain) + gone_back_through(road_to_form(other, plain)))


def _checked_kinds(chain):
    """The list of the types that a chain goes through; raises InvalidChain unless it is a chain, not []."""
    kinds = kinds_through(chain)
    if not kinds:
        raise InvalidChain(chain)
    return kinds


def kinds_along(chain):
    """The list of the types that a chain, not [], goes through, ends among them."""
    return _checked_kinds(chain)


def _check_tuples(chain, word, kind):
    """Raises InvalidChain, InvalidWord or InvalidKind unless these are a chain, not [], a sign and a type."""
    _checked_kinds(chain)
    if word not in _WORDS:
        raise InvalidWord(word)
    check_kind(kind)


def through_first(chain, word, kind):
    """The chain through the types (word, each of the chain's, kind)."""
    _check_tuples(chain, word, kind)
    return all_first(chain, word, kind)


def through_second(chain, word, kind):
    """The chain through the types (word, kind, each of the chain's)."""
    _check_tuples(chain, word, kind)
    return all_second(chain, word, kind)


def _checked_ends(chain, place):
    """The first and the last type of a chain; Refused unless both are a "then" with the same part at this place."""
    kinds = _checked_kinds(chain)
    begin, end = kinds[0], kinds[-1]
    if not has_sign(begin, "then") or not has_sign(end, "then") or begin[place] != end[place]:
        raise Refused(chain)
    return (begin, end)


def cancelled_behind(chain):
    """A chain from X to Y, for one from the "then" of X and B to that of Y and B."""
    (_, begin, behind), (_, end, _) = _checked_ends(chain, 2)
    return (
        [("on", _over_behind(begin, behind))]
        + all_first(chain, "over", behind)
        + [("back", _over_behind(end, behind))]
    )


def _over_behind(kind, behind):
    """The derivation of a type and of what it is over another one with that one behind it."""
    return ("over made", ("then made", ("is", kind), ("is", behind)))


def cancelled_ahead(chain):
    """A chain from X to Y, for one from the "then" of B and X to that of B and Y."""
    (_, ahead, begin), (_, _, end) = _checked_ends(chain, 1)
    return (
        [("on", _under_ahead(ahead, begin))]
        + all_second(chain, "under", ahead)
        + [("back", _under_ahead(ahead, end))]
    )


def _under_ahead(ahead, kind):
    """The derivation of a type and of what it is under another one with that one ahead of it."""
    return ("under made", ("then made", ("is", ahead), ("is", kind)))


def shortened(chain):
    """A chain with the same ends, no longer, through no type twice, without two neighbouring steps of one way."""
    _checked_kinds(chain)
    return made_short(chain)


def is_shortened(chain, value):
    """Whether any object is such a chain as shortened returns."""
    kinds = _checked_kinds(chain)
    if not _is_chain_between(kinds[0], kinds[-1], value) or len(value) > len(chain):
        return False
    if not are_different(kinds_through(value)):
        return False
    return not any([value[place][0] == value[place + 1][0] for place in range(len(value) - 1)])


def form_chain(kind, plain):
    """A chain from a type to the plain form of its letters."""
    check_kind(kind)
    if not is_word(plain):
        raise InvalidKind(plain)
    return made_short(road_to_form(kind, plain))
