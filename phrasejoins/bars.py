"""Closed lists of rows with goals that they do not give, over a pool's numbers.

Letters are kept by every way back: if a row has the letters of its goal, then
of the one or two rows ahead either all have those of theirs or none has, so the
first one tells of both; and if it has not, then on each way some row has not.
"""

from phrasejoins.ways import ways_back


def bar_from(search, row, goal):
    """The list of tuples (row, goal) that bars a row which does not give a goal."""
    barred = {(row, goal): True}
    if not search.pool.agree(row, goal):
        return list(barred)
    waiting = [(row, goal)]
    while waiting:
        row, goal = waiting.pop()
        for way in ways_back(search.pool, row, goal):
            ahead = way[2]
            if not _stopped(search.pool, barred, ahead):
                told = _not_given(search, ahead)
                barred[told] = True
                waiting.append(told)
    return list(barred)


def _stopped(pool, barred, ahead):
    """Whether a way back from a row with the letters of its goal is stopped by a bar or by letters."""
    return any([told in barred for told in ahead]) or not pool.agree(ahead[0][0], ahead[0][1])


def _not_given(search, ahead):
    """The first of the one or two on a way back that is not given; the first row is mostly the shorter one."""
    row, goal = ahead[0]
    return ahead[-1] if search.holds(row, goal) else ahead[0]


def is_closed(pool, barred):
    """Whether no row is its goal alone and each way back from each of these keys is stopped."""
    return all([_is_shut(pool, barred, row, goal) for row, goal in barred])


def _is_shut(pool, barred, row, goal):
    """Whether a row is not its goal alone and each way back from it is stopped."""
    if row == (goal,):
        return False
    if not pool.agree(row, goal):
        return True
    return all([_stopped(pool, barred, way[2]) for way in ways_back(pool, row, goal)])
