"""Tables of worlds: what comes of each two things."""

from phrasejoins.values import is_word


def things_in(table):
    """The ascending list of the things of a table."""
    return sorted(set([thing for pair in table for thing in pair]))


def _is_pair(value):
    """Whether any object is a tuple of two words."""
    return isinstance(value, tuple) and len(value) == 2 and is_word(value[0]) and is_word(value[1])


def is_table(value):
    """Whether any object is a table."""
    if not isinstance(value, dict) or not value or not all([_is_pair(pair) for pair in value]):
        return False
    things = things_in(value)
    if len(value) != len(things) * len(things) or not all([end in things for end in value.values()]):
        return False
    return _is_associative(value, things)


def _is_associative(table, things):
    """Whether of each three things the same comes whichever two neighbours are put together first."""
    return all([
        table[(table[(one, other)], third)] == table[(one, table[(other, third)])]
        for one in things
        for other in things
        for third in things
    ])


def tables_of(things):
    """The list of all tables with an ascending list of things, ascending by what their tuples come to."""
    pairs = [(one, other) for one in things for other in things]
    columns = [[]]
    for _ in pairs:
        columns = [column + [thing] for column in columns for thing in things]
    made = [{pair: end for pair, end in zip(pairs, column)} for column in columns]
    return [table for table in made if _is_associative(table, things)]


def turned_table(table):
    """The table in which two things come to what they did the other way round."""
    return {(one, other): table[(other, one)] for one, other in table}
