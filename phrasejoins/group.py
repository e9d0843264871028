"""Members of the free group, each as the list of its letters: tuples (word, 1) or (word, -1), cancelled."""


def put_behind(one, other):
    """The letters of the one with those of the other behind, cancelled."""
    gone = 0
    while gone < len(one) and gone < len(other) and _cancel(one[len(one) - 1 - gone], other[gone]):
        gone += 1
    return one[:len(one) - gone] + other[gone:]


def _cancel(letter, later):
    return letter[0] == later[0] and letter[1] == -later[1]


def gone_back(letters):
    """The letters turned back: in the other order, each with the other sign."""
    return [(word, -sign) for word, sign in reversed(letters)]


def signed_letters(sign, first, second):
    """The letters of a type by its sign and the letters of its two parts."""
    if sign == "over":
        return put_behind(first, gone_back(second))
    if sign == "under":
        return put_behind(gone_back(first), second)
    return put_behind(first, second)
