"""The plainest values that arguments are made of."""

_LETTERS = "abcdefghijklmnopqrstuvwxyz"


def is_word(value):
    """Whether any object is a string of one to eight letters from a to z."""
    if not isinstance(value, str) or not 1 <= len(value) <= 8:
        return False
    return all([letter in _LETTERS for letter in value])


def is_count(value):
    """Whether any object is a whole number of at least 0; True and False are none."""
    return isinstance(value, int) and not isinstance(value, bool) and value >= 0


def are_different(things):
    """Whether no two things of a list are equal."""
    return all([things[place] not in things[:place] for place in range(len(things))])
