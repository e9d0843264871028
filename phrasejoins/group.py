"""Members of the free group, each as the list of its letters: tuples (word, 1) or (word, -1), cancelled."""

from phrasejoins.forms import folded


def do_cancel(letter, later):
    """Whether two neighbouring letters go: the same word, unlike signs."""
    return letter[0] == later[0] and letter[1] == -later[1]


def put_behind(one, other):
    """The letters of the one with those of the other behind, cancelled."""
    gone = 0
    while gone < len(one) and gone < len(other) and do_cancel(one[len(one) - 1 - gone], other[gone]):
        gone += 1
    return one[:len(one) - gone] + other[gone:]


def gone_back(letters):
    """The letters turned back: in the other order, each with the other sign."""
    return [(word, -sign) for word, sign in reversed(letters)]


def signed_letters(sign, first, second):
    """The letters of a type by its sign and the letters of its two parts."""
    if sign == "over":
        return put_behind(first, gone_back(second))
    if sign == "under":
        return put_behind(gone_back(first), second)
    return put_behind(first, second)


def letters_in(kind):
    """The letters of a type."""
    return folded(kind, lambda word: [(word, 1)], signed_letters)


def letters_along(kinds):
    """The letters of some types, one behind another, cancelled."""
    letters = []
    for kind in kinds:
        letters = put_behind(letters, letters_in(kind))
    return letters


def without_round_ends(letters):
    """The letters without their first and last ones, as long as these cancel each other."""
    gone = 0
    while 2 * gone + 1 < len(letters) and do_cancel(letters[gone], letters[len(letters) - 1 - gone]):
        gone += 1
    return letters[gone:len(letters) - gone]
