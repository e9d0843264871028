"""Turns of points: lists of the counts below their number, each point taken to what stands at it."""

from phrasejoins.forms import folded
from phrasejoins.values import is_count, is_word


def _is_turn(value):
    """Whether any object is a turn, of one point or more."""
    if not isinstance(value, list) or not value or not all([is_count(point) for point in value]):
        return False
    return sorted(value) == list(range(len(value)))


def are_turns(value):
    """Whether any object is turns of plain types."""
    if not isinstance(value, dict) or not value:
        return False
    if not all([is_word(word) and _is_turn(turn) for word, turn in value.items()]):
        return False
    points = [len(turn) for turn in value.values()]
    return min(points) == max(points)


def _behind(first, second):
    """The turn that the first one comes to with the second one behind it."""
    return [second[point] for point in first]


def _back(turn):
    """The turn gone back."""
    back = [0] * len(turn)
    for point, end in enumerate(turn):
        back[end] = point
    return back


def _signed_turn(sign, first, second):
    """The turn of a type by its sign and the turns of its two parts."""
    if sign == "over":
        return _behind(first, _back(second))
    if sign == "under":
        return _behind(_back(first), second)
    return _behind(first, second)


def turn_in(turns, kind):
    """The turn that turns tell for a type."""
    return folded(kind, lambda word: list(turns[word]), _signed_turn)


def turns_along(letters, plains):
    """Turns of these plain types by which letters take the first point to the last one, letter by letter."""
    return {word: _turn_along(letters, word) for word in plains}


def _turn_along(letters, word):
    """The turn of one plain type; no two steps begin or end alike, as no neighbours in letters cancel."""
    turn = [None] * (len(letters) + 1)
    for point, (other, sign) in enumerate(letters):
        if other == word and sign == 1:
            turn[point] = point + 1
        elif other == word:
            turn[point + 1] = point
    left = [point for point in range(len(turn)) if point not in turn]
    return [left.pop(0) if end is None else end for end in turn]
