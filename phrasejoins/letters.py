"""Letters: the members of the free group that types and rows stand for, and turns that tell them apart."""

from phrasejoins.bricks import bricks_of
from phrasejoins.checks import check_asked, check_stretch
from phrasejoins.errors import InvalidKind, InvalidLetters, InvalidTurns
from phrasejoins.forms import check_kind, is_kind, plains_in, then_of
from phrasejoins.group import do_cancel, gone_back, letters_along, letters_in, put_behind, without_round_ends
from phrasejoins.turns import are_turns, turn_in, turns_along
from phrasejoins.values import is_word


def _is_letter(value):
    """Whether any object is a tuple of a word and a sign, 1 or -1; True is no sign."""
    if not isinstance(value, tuple) or len(value) != 2 or not is_word(value[0]):
        return False
    sign = value[1]
    return isinstance(sign, int) and not isinstance(sign, bool) and sign in (1, -1)


def are_letters(value):
    """Whether any object is letters."""
    if not isinstance(value, list) or not all([_is_letter(letter) for letter in value]):
        return False
    return not any([do_cancel(value[place], value[place + 1]) for place in range(len(value) - 1)])


def _check_letters(letters):
    """Raises InvalidLetters unless these are letters."""
    if not are_letters(letters):
        raise InvalidLetters(letters)


def letters_of(kind):
    """The letters of a type."""
    check_kind(kind)
    return letters_in(kind)


def letters_of_row(row):
    """The letters of a row, perhaps empty: those of its types, one behind another, cancelled."""
    check_stretch(row)
    return letters_along(row)


def put_letters(one, other):
    """The one letters with the others behind, cancelled."""
    _check_letters(one)
    _check_letters(other)
    return put_behind(one, other)


def turned_back(letters):
    """The letters turned back."""
    _check_letters(letters)
    return gone_back(letters)


def may_give(row, goal):
    """Whether a row has the letters of a goal."""
    check_asked(row, goal)
    return letters_along(row) == letters_in(goal)


def are_round(one, other):
    """Whether one letters with some turned back ahead and the same behind are the other ones."""
    _check_letters(one)
    _check_letters(other)
    kept = without_round_ends(one)
    sought = without_round_ends(other)
    # Such as are cancelled round are conjugate exactly if one can be gone through from another place on.
    return kept == sought or sought in [kept[place:] + kept[:place] for place in range(len(kept))]


def plain_form(letters, plain):
    """A type with these letters, put together by "then"; the plain one serves to say those with -1."""
    _check_letters(letters)
    if not is_word(plain):
        raise InvalidKind(plain)
    return then_of(bricks_of(letters, plain))


def _tell_turns(turns, kind):
    """Whether the plain types of a type are among those of turns."""
    return all([word in turns for word in plains_in([kind])])


def turn_of(turns, kind):
    """The turn that turns of plain types tell for a type."""
    if not are_turns(turns):
        raise InvalidTurns(turns)
    if not is_kind(kind) or not _tell_turns(turns, kind):
        raise InvalidKind(kind)
    return turn_in(turns, kind)


def parting_turns(one, other):
    """Turns of just the plain types in two types by which these have different turns, None if there are none."""
    check_kind(one)
    check_kind(other)
    letters = put_behind(letters_in(one), gone_back(letters_in(other)))
    if not letters:
        return None
    return turns_along(letters, plains_in([one, other]))


def are_parting_turns(one, other, value):
    """Whether any object is turns, of the plain types in two types or more, by which these have different turns."""
    check_kind(one)
    check_kind(other)
    if not are_turns(value) or not _tell_turns(value, one) or not _tell_turns(value, other):
        return False
    return turn_in(value, one) != turn_in(value, other)
