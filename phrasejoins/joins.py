"""Which rows "and" can join: by a type that both give, alone or in the place of a stretch of a row."""

from phrasejoins.bounds import above
from phrasejoins.building import put_together, same
from phrasejoins.checks import check_places, check_row, is_row
from phrasejoins.derivations import is_derivation_of
from phrasejoins.errors import InvalidRow, Refused
from phrasejoins.forms import check_kind, is_kind, then_of
from phrasejoins.giving import derivation_of, gives, waits_for
from phrasejoins.group import letters_along
from phrasejoins.letters import are_parting_turns, parting_turns


def _check_rows(one, other):
    """Raises InvalidRow unless both are rows."""
    check_row(one)
    check_row(other)


def can_join(one, other):
    """Whether some type is given by both rows: whether they have the same letters."""
    _check_rows(one, other)
    return letters_along(one) == letters_along(other)


def joined(one, other):
    """The tuple of a type that both rows give and the derivations that tell it, None if there is none."""
    if not can_join(one, other):
        return None
    kind, first, second = above([then_of(one), then_of(other)])
    return (kind, _from_row(one, first), _from_row(other, second))


def _from_row(row, derivation):
    """The derivation of a row, for one of its types put together by "then"."""
    return derivation if len(row) == 1 else ("cut", 0, put_together(same(row)), derivation)


def is_joined(one, other, value):
    """Whether any object is the tuple of a type that both rows give and the derivations that tell it."""
    _check_rows(one, other)
    if not isinstance(value, tuple) or len(value) != 3 or not is_kind(value[0]):
        return False
    kind, first, second = value
    return is_derivation_of(one, kind, first) and is_derivation_of(other, kind, second)


def and_type(kind):
    """The type of a word that joins two phrases of a type to one."""
    check_kind(kind)
    return ("over", ("under", kind, kind), kind)


def joining(one, other, kind):
    """A derivation of the one row, the "and" of a type and the other row, and of the type that both give."""
    _check_rows(one, other)
    check_kind(kind)
    first, second = derivation_of(one, kind), derivation_of(other, kind)
    if first is None or second is None:
        raise Refused(kind)
    return ("over used", len(one), second, ("under used", 0, first, ("is", kind)))


def _type_of_place(row, first, last, goal):
    """What is waited for between what stands ahead of and behind a stretch of a row."""
    return waits_for(row[:first], goal, row[last:])


def place_type(row, first, last, goal):
    """The type that each row gives which in a stretch's place makes a row that gives the goal."""
    check_row(row)
    check_places(row, first, last)
    check_kind(goal)
    return _type_of_place(row, first, last, goal)


def _check_place(row, first, last, other, goal):
    """Raises the error of the first of these that is none of a row, its places, another row and a type."""
    check_row(row)
    check_places(row, first, last)
    check_row(other)
    check_kind(goal)


def can_join_at(row, first, last, other, goal):
    """Whether both a stretch of a row and another row give a type that in the stretch's place makes the goal."""
    _check_place(row, first, last, other, goal)
    kind = _type_of_place(row, first, last, goal)
    return gives(row[first:last], kind) and gives(other, kind)


def joined_at(row, first, last, other, goal):
    """The tuple of such a type and the three derivations that show it, None if there is none."""
    _check_place(row, first, last, other, goal)
    kind = _type_of_place(row, first, last, goal)
    mine = derivation_of(row[first:last], kind)
    theirs = derivation_of(other, kind)
    if mine is None or theirs is None:
        return None
    return (kind, mine, theirs, _with_place(row[:first], goal, row[last:]))


def _with_place(ahead, goal, behind):
    """The derivation of two lists of types with the type of the place between them, and of the goal."""
    derivation = ("is", goal)
    for kind in reversed(behind):
        derivation = ("over used", 0, ("is", kind), derivation)
    for place, kind in enumerate(ahead):
        derivation = ("under used", place, ("is", kind), derivation)
    return derivation


def is_joined_at(row, first, last, other, goal, value):
    """Whether any object is such a tuple as joined_at returns."""
    _check_place(row, first, last, other, goal)
    if not isinstance(value, tuple) or len(value) != 4 or not is_kind(value[0]):
        return False
    kind, mine, theirs, whole = value
    if not is_derivation_of(row[first:last], kind, mine) or not is_derivation_of(other, kind, theirs):
        return False
    return is_derivation_of(row[:first] + [kind] + row[last:], goal, whole)


def join_classes(rows):
    """The ascending list of the ascending lists of the positions of rows with equal letters."""
    if not isinstance(rows, list) or not rows or not all([is_row(row) for row in rows]):
        raise InvalidRow(rows)
    letters = []
    classes = []
    for position, row in enumerate(rows):
        found = letters_along(row)
        if found in letters:
            classes[letters.index(found)].append(position)
        else:
            letters.append(found)
            classes.append([position])
    return classes


def why_not_joined(one, other):
    """Turns by which the types of two rows, put together by "then", come to different ones; None if there are none."""
    _check_rows(one, other)
    return parting_turns(then_of(one), then_of(other))


def is_why_not_joined(one, other, value):
    """Whether any object is such turns as why_not_joined returns."""
    _check_rows(one, other)
    return are_parting_turns(then_of(one), then_of(other), value)
