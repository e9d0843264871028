"""Readings of rows free of then: heads, what waits for what, and how many readings there are."""

from phrasejoins.checks import check_asked
from phrasejoins.counting import Counting, head_and_waits
from phrasejoins.errors import Refused
from phrasejoins.forms import is_free
from phrasejoins.pool import Pool


def _check_free(kind):
    """Raises InvalidKind unless this is a type, Refused unless it is free of then."""
    if not is_free(kind):
        raise Refused(kind)


def head_of(kind):
    """The head of a type."""
    _check_free(kind)
    return head_and_waits(kind)[0]


def waits_of(kind):
    """The tuple of the lists of what a type waits for, behind and ahead, nearest first."""
    _check_free(kind)
    return head_and_waits(kind)[1:]


def many_readings(row, goal):
    """How many readings of a goal a row has."""
    check_asked(row, goal)
    if not all([is_free(kind) for kind in row]):
        raise Refused(row)
    if not is_free(goal):
        raise Refused(goal)
    pool = Pool()
    return Counting(pool).many(pool.numbered(row), pool.number_of(goal))
