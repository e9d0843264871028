"""Which rows give which types: by a derivation, or not, by a closed wall (in names: bar)."""

from phrasejoins.bars import bar_from, is_closed
from phrasejoins.checks import check_asked, check_stretch, is_row
from phrasejoins.cutting import derivation_without_cuts
from phrasejoins.derivations import check_derivation
from phrasejoins.forms import check_kind, is_kind
from phrasejoins.pool import Pool
from phrasejoins.search import Search
from phrasejoins.ways import ways_back


def _told_in(pool, asked):
    """The tuple of a row and a goal that stands behind their numbers."""
    numbers, goal = asked
    return (pool.row_of(numbers), pool.kinds[goal])


def steps_back(row, goal):
    """The list of all ways in which a derivation may end but by "is" and by "cut"."""
    check_asked(row, goal)
    pool = Pool()
    ways = ways_back(pool, pool.numbered(row), pool.number_of(goal))
    return [[_told_in(pool, asked) for asked in way[2]] for way in ways]


def gives(row, goal):
    """Whether some derivation tells a row and a goal."""
    check_asked(row, goal)
    pool = Pool()
    return Search(pool).holds(pool.numbered(row), pool.number_of(goal))


def derivation_of(row, goal):
    """A derivation without a cut that tells a row and a goal, None if there is none."""
    check_asked(row, goal)
    pool = Pool()
    search = Search(pool)
    numbers, number = pool.numbered(row), pool.number_of(goal)
    if not search.holds(numbers, number):
        return None
    return search.derivation(numbers, number)


def bar_of(row, goal):
    """A closed wall with a row and a goal in it, None if the row gives the goal."""
    check_asked(row, goal)
    pool = Pool()
    search = Search(pool)
    numbers, number = pool.numbered(row), pool.number_of(goal)
    if search.holds(numbers, number):
        return None
    return [_told_in(pool, asked) for asked in bar_from(search, numbers, number)]


def _are_rows_with_goals(value):
    """Whether any object is a list of tuples of a row and a type."""
    if not isinstance(value, list):
        return False
    if not all([isinstance(entry, tuple) and len(entry) == 2 for entry in value]):
        return False
    return all([is_row(entry[0]) and is_kind(entry[1]) for entry in value])


def is_bar(row, goal, value):
    """Whether any object is a closed wall with a row and a goal in it."""
    check_asked(row, goal)
    if not _are_rows_with_goals(value):
        return False
    pool = Pool()
    barred = {(pool.numbered(entry[0]), pool.number_of(entry[1])): True for entry in value}
    return (pool.numbered(row), pool.number_of(goal)) in barred and is_closed(pool, barred)


def without_cuts(derivation):
    """A derivation without cuts that tells what a derivation tells."""
    check_derivation(derivation)
    return derivation_without_cuts(derivation)


def waits_for(ahead, goal, behind):
    """The type of what may stand between two lists of types for a goal."""
    check_stretch(ahead)
    check_kind(goal)
    check_stretch(behind)
    waiting = goal
    for kind in reversed(behind):
        waiting = ("over", waiting, kind)
    for kind in ahead:
        waiting = ("under", kind, waiting)
    return waiting
