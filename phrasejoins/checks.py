"""What the arguments of several modules are judged by."""

from phrasejoins.errors import InvalidCount, InvalidPlace, InvalidRow
from phrasejoins.forms import check_kind, is_kind
from phrasejoins.values import is_count


def are_kinds(value):
    """Whether any object is a list, perhaps empty, of types."""
    return isinstance(value, list) and all([is_kind(kind) for kind in value])


def is_row(value):
    """Whether any object is a list, not empty, of types."""
    return are_kinds(value) and len(value) > 0


def check_row(row):
    """Raises InvalidRow unless this is a list, not empty, of types."""
    if not is_row(row):
        raise InvalidRow(row)


def check_stretch(kinds):
    """Raises InvalidRow unless this is a list, perhaps empty, of types."""
    if not are_kinds(kinds):
        raise InvalidRow(kinds)


def check_asked(row, goal):
    """Raises InvalidRow unless this is a row, InvalidKind unless the goal is a type."""
    check_row(row)
    check_kind(goal)


def check_places(row, first, last):
    """Raises InvalidPlace unless a stretch of a row begins at the first and ends ahead of the last place."""
    if not is_count(first) or first >= len(row):
        raise InvalidPlace(first)
    if not is_count(last) or not first < last <= len(row):
        raise InvalidPlace(last)


def check_many(many, most):
    """Raises InvalidCount unless this is a count from 1 to the most."""
    if not is_count(many) or not 1 <= many <= most:
        raise InvalidCount(many)
