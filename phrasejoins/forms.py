"""Types: what they are, what is in them, and all of them in order.

In names a type is called kind.
"""

from phrasejoins.errors import InvalidCount, InvalidKind, InvalidMap, InvalidPlains
from phrasejoins.trees import from_inside, nodes_in
from phrasejoins.values import is_count, is_word

# The order in which all_kinds lists them.
_SIGNS = ("over", "then", "under")


def _is_signed(value):
    """Whether any object has a sign and two parts, whatever these are."""
    return isinstance(value, tuple) and len(value) == 3 and value[0] in _SIGNS


def is_kind(value):
    """Whether any object is a type."""
    waiting = [value]
    while waiting:
        part = waiting.pop()
        if _is_signed(part):
            waiting.extend(part[1:])
        elif not is_word(part):
            return False
    return True


def check_kind(kind):
    """Raises InvalidKind unless this is a type."""
    if not is_kind(kind):
        raise InvalidKind(kind)


def _parts_of(kind):
    """The tuple of the two parts of a type, of none if it is plain."""
    return kind[1:] if isinstance(kind, tuple) else ()


def kinds_in(kind):
    """The list of all types in a type, itself among them."""
    return nodes_in(kind, _parts_of)


def folded(kind, at_plain, at_signed):
    """What comes of a type from the inside out: of plain ones, then of a sign and what came of its two parts."""

    def at_part(part, came):
        return at_signed(part[0], came[0], came[1]) if came else at_plain(part)

    return from_inside(kind, _parts_of, at_part)


def signs_of(kind):
    """How many signs a type has."""
    check_kind(kind)
    return len([part for part in kinds_in(kind) if isinstance(part, tuple)])


def plains_in(kinds):
    """The ascending list of the plain types in some types."""
    return sorted(set([part for kind in kinds for part in kinds_in(kind) if isinstance(part, str)]))


def has_sign(kind, sign):
    """Whether a type is not plain and has this sign ahead of its two parts."""
    return isinstance(kind, tuple) and kind[0] == sign


def then_of(kinds):
    """Some types, at least one, put together by "then" from the left."""
    whole = kinds[0]
    for kind in kinds[1:]:
        whole = ("then", whole, kind)
    return whole


def plains_of(kind):
    """The ascending list of the plain types in a type."""
    check_kind(kind)
    return plains_in([kind])


def is_free(kind):
    """Whether no type in a type is a "then"."""
    check_kind(kind)
    return all([isinstance(part, str) or part[0] != "then" for part in kinds_in(kind)])


def _turned_sign(sign, first, second):
    """A type by its parts turned about: what stood ahead stands behind."""
    if sign == "over":
        return ("under", second, first)
    if sign == "under":
        return ("over", second, first)
    return ("then", second, first)


def turned(kind):
    """A type turned about."""
    check_kind(kind)
    return folded(kind, lambda word: word, _turned_sign)


def check_map(sent, plains):
    """Raises InvalidMap unless this is a dictionary from just these plain types to types."""
    if not isinstance(sent, dict) or len(sent) != len(plains):
        raise InvalidMap(sent)
    if not all([word in sent and is_kind(sent[word]) for word in plains]):
        raise InvalidMap(sent)


def put_in(kind, sent):
    """A type with its plain types replaced, of arguments that were checked."""
    return folded(kind, lambda word: sent[word], lambda sign, first, second: (sign, first, second))


def put_for(kind, sent):
    """The type in which each plain type is replaced as a dictionary tells."""
    check_kind(kind)
    check_map(sent, plains_in([kind]))
    return put_in(kind, sent)


def check_plains(plains):
    """Raises InvalidPlains unless this is an ascending list, not empty, of words."""
    if not isinstance(plains, list) or not plains or not all([is_word(word) for word in plains]):
        raise InvalidPlains(plains)
    if not all([plains[place] < plains[place + 1] for place in range(len(plains) - 1)]):
        raise InvalidPlains(plains)


def check_count(number):
    """Raises InvalidCount unless this is a count."""
    if not is_count(number):
        raise InvalidCount(number)


def all_kinds(plains, number):
    """The list of all types with so many signs whose plain types are of a list."""
    check_plains(plains)
    check_count(number)
    by_signs = [list(plains)]
    for many in range(1, number + 1):
        made = [
            (sign, first, second)
            for sign in _SIGNS
            for ahead in range(many)
            for first in by_signs[ahead]
            for second in by_signs[many - 1 - ahead]
        ]
        by_signs.append(made)
    return by_signs[number]


def many_kinds(plains, number):
    """How many types all_kinds lists."""
    check_plains(plains)
    check_count(number)
    by_signs = [len(plains)]
    for many in range(1, number + 1):
        pairs = sum([by_signs[ahead] * by_signs[many - 1 - ahead] for ahead in range(many)])
        by_signs.append(len(_SIGNS) * pairs)
    return by_signs[number]
