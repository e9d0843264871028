"""Worlds: finite languages in which rows hold of types or do not."""

from phrasejoins.checks import check_asked, check_many, check_row, is_row
from phrasejoins.errors import InvalidKind, InvalidLots, InvalidRow, InvalidTable, InvalidWorld
from phrasejoins.forms import check_kind, is_kind, plains_in
from phrasejoins.lots import Lots, are_lots
from phrasejoins.pool import Pool
from phrasejoins.search import Search
from phrasejoins.tables import is_table, tables_of, things_in, turned_table
from phrasejoins.values import are_different


class World:
    """A table of what things come to, and the lots of plain types."""

    def __init__(self, table, lots):
        if not is_table(table):
            raise InvalidTable(table)
        if not are_lots(lots, things_in(table)):
            raise InvalidLots(lots)
        self._table = {pair: table[pair] for pair in sorted(table)}
        self._lots = {word: list(lots[word]) for word in sorted(lots)}

    def table(self):
        """The table."""
        return {pair: self._table[pair] for pair in self._table}

    def lots(self):
        """The lots of the plain types."""
        return {word: list(self._lots[word]) for word in self._lots}

    def things(self):
        """The ascending list of the things."""
        return things_in(self._table)

    def plains(self):
        """The ascending list of the plain types."""
        return list(self._lots)

    def __eq__(self, other):
        return isinstance(other, World) and self._table == other._table and self._lots == other._lots


def _check_world(world):
    """Raises InvalidWorld unless this is a world."""
    if not isinstance(world, World):
        raise InvalidWorld(world)


def _knows(world, kinds):
    """Whether all plain types in some types are a world's own."""
    plains = world.plains()
    return all([word in plains for word in plains_in(kinds)])


def _check_row_in(world, row):
    """Raises InvalidRow unless this is a row whose plain types are a world's own."""
    if not is_row(row) or not _knows(world, row):
        raise InvalidRow(row)


def _check_kind_in(world, kind):
    """Raises InvalidKind unless this is a type whose plain types are a world's own."""
    if not is_kind(kind) or not _knows(world, [kind]):
        raise InvalidKind(kind)


def _lots_in(world):
    return Lots(world.table(), world.things())


def lot_of(world, kind):
    """The lot of a type, an ascending list of things."""
    _check_world(world)
    _check_kind_in(world, kind)
    return list(_lots_in(world).lot_in(kind, world.lots()))


def lot_of_row(world, row):
    """The lot of a row, an ascending list of things."""
    _check_world(world)
    _check_row_in(world, row)
    return list(_lots_in(world).lot_along(row, world.lots()))


def many_ways(world, row, thing):
    """In how many ways a thing comes of one thing of each lot of a row's types."""
    _check_world(world)
    _check_row_in(world, row)
    if thing not in world.things():
        raise InvalidLots(thing)
    return _lots_in(world).ways_along(row, world.lots()).get(thing, 0)


def _left_out(lots, plain_lots, row, kind):
    """The list of the things in a row's lot that are not in a type's, of arguments that were checked."""
    held = lots.lot_in(kind, plain_lots)
    return [thing for thing in lots.lot_along(row, plain_lots) if thing not in held]


def escaping(world, row, kind):
    """The ascending list of the things in a row's lot that are not in a type's."""
    _check_world(world)
    _check_row_in(world, row)
    _check_kind_in(world, kind)
    return _left_out(_lots_in(world), world.lots(), row, kind)


def holds(world, row, kind):
    """Whether each thing in a row's lot is in a type's."""
    return not escaping(world, row, kind)


def _things_up_to(many):
    """The lists of things of which the smallest tables are made."""
    return [["a"], ["a", "b"]][:many]


def _all_plain_lots(plains, things):
    """The list of all lots of some plain types, of some things."""
    lots = [[]]
    for thing in things:
        lots = [lot + more for lot in lots for more in [[], [thing]]]
    made = [{}]
    for word in plains:
        made = [{**plain_lots, word: lot} for plain_lots in made for lot in lots]
    return made


def parting_world(row, kind, many):
    """A world of at most so many things in which a row does not hold of a type, None if there is none."""
    check_asked(row, kind)
    check_many(many, 2)
    plains = plains_in(row + [kind])
    for things in _things_up_to(many):
        for table in tables_of(things):
            lots = Lots(table, things)
            for plain_lots in _all_plain_lots(plains, things):
                if _left_out(lots, plain_lots, row, kind):
                    return World(table, plain_lots)
    return None


def is_parting_world(row, kind, value):
    """Whether any object is a world, with the plain types in a row and a type or more, in which it does not hold."""
    check_asked(row, kind)
    return isinstance(value, World) and _knows(value, row + [kind]) and not holds(value, row, kind)


def _check_choice(kinds):
    """Raises InvalidRow unless this is a list, not empty, of different types."""
    check_row(kinds)
    if not are_different(kinds):
        raise InvalidRow(kinds)


def rows_giving(kinds, kind, number):
    """The list of all rows of at most so many types of a list that give a type, the shorter ones first."""
    _check_choice(kinds)
    check_kind(kind)
    check_many(number, 3)
    pool = Pool()
    search = Search(pool)
    choice = pool.numbered(kinds)
    goal = pool.number_of(kind)
    rows = [()]
    giving = []
    for _ in range(number):
        rows = [row + (one,) for row in rows for one in choice]
        giving.extend([row for row in rows if search.holds(row, goal)])
    return [pool.row_of(row) for row in giving]


def turned_world(world):
    """The world in which two things come to what they did the other way round, with the same lots."""
    _check_world(world)
    return World(turned_table(world.table()), world.lots())


def all_tables(many):
    """The list of all tables with the thing a, or with the things a and b."""
    check_many(many, 2)
    return tables_of(_things_up_to(many)[-1])
