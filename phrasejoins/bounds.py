"""Types above others, which these give, and below others, which they give."""

from phrasejoins.checks import check_row
from phrasejoins.derivations import told_by
from phrasejoins.errors import Refused
from phrasejoins.forms import all_kinds, check_count, check_plains, is_kind
from phrasejoins.giving import gives
from phrasejoins.group import letters_in
from phrasejoins.knots import telling_of
from phrasejoins.meeting import above_all, below_all, lowered_to, raised_from


def _is_above_all(kind, kinds):
    """Whether each of some types alone gives a type."""
    return all([gives([one], kind) for one in kinds])


def is_above(kinds, value):
    """Whether any object is a type above all of a row's."""
    check_row(kinds)
    return is_kind(value) and _is_above_all(value, kinds)


def is_below(kinds, value):
    """Whether any object is a type below all of a row's."""
    check_row(kinds)
    return is_kind(value) and all([gives([value], kind) for kind in kinds])


def raised(first, second):
    """A type above the goals of two derivations of the same low type, and the derivations that tell it."""
    row, later_row = told_by(first)[0], told_by(second)[0]
    if len(row) != 1 or row != later_row:
        raise Refused(second)
    return raised_from(first, second)


def lowered(first, second):
    """A type below the types of two derivations of the same high goal, and the derivations that tell it."""
    (row, high), (later_row, later_high) = told_by(first), told_by(second)
    if len(row) != 1 or len(later_row) != 1 or high != later_high:
        raise Refused(second)
    return lowered_to(first, second)


def _are_all_alike(kinds):
    """Whether all types of a row have the same letters."""
    return all([letters_in(kind) == letters_in(kinds[0]) for kind in kinds])


def above(kinds):
    """The list of a type above all of a row's and the derivations that tell it, None if there is none."""
    check_row(kinds)
    if not _are_all_alike(kinds):
        return None
    derivations = above_all(kinds)
    return [telling_of(derivations[0])[1]] + derivations


def below(kinds):
    """The list of a type below all of a row's and the derivations that tell them, None if there is none."""
    check_row(kinds)
    if not _are_all_alike(kinds):
        return None
    derivations = below_all(kinds)
    return [telling_of(derivations[0])[0][0]] + derivations


def _is_paper(kinds, value, told):
    """Whether any object is the list of a type and, for each of some, a derivation of what is told for it."""
    if not isinstance(value, list) or len(value) != len(kinds) + 1:
        return False
    return all([telling_of(made) == told(kind, value[0]) for made, kind in zip(value[1:], kinds)])


def is_above_paper(kinds, value):
    """Whether any object is a list of a type above all of a row's and the derivations that tell it."""
    check_row(kinds)
    return _is_paper(kinds, value, lambda kind, bound: ([kind], bound))


def is_below_paper(kinds, value):
    """Whether any object is a list of a type below all of a row's and the derivations that tell them."""
    check_row(kinds)
    return _is_paper(kinds, value, lambda kind, bound: ([bound], kind))


def least_above(kinds, plains, number):
    """The first type, by signs and in order, above all of a row's, None if none of so few signs is."""
    check_row(kinds)
    check_plains(plains)
    check_count(number)
    for signs in range(number + 1):
        for kind in all_kinds(plains, signs):
            if _is_above_all(kind, kinds):
                return kind
    return None
