"""Points [29] to [35]: worlds, what holds in them, worlds that part, rows that give."""

import itertools
import random
import unittest

from phrasejoins.errors import InvalidCount, InvalidKind, InvalidLots, InvalidRow, InvalidTable, InvalidWorld
from phrasejoins.forms import all_kinds, is_free, plains_of, turned
from phrasejoins.giving import gives
from phrasejoins.worlds import (
    World, all_tables, escaping, holds, is_parting_world, lot_of, lot_of_row, many_ways, parting_world, rows_giving,
    turned_world,
)
from tests.samples import (
    GOES, NO_LOTS, NO_TABLES, NO_WORLDS, PAIR, PARITY, PARITY_LOTS, RAISED, SEES, WORLD, slow_gives, slow_lot,
)

# Of two things put together, the first one, the later one.
FIRSTS = {(one, other): one for one in "ab" for other in "ab"}
LASTS = {(one, other): other for one in "ab" for other in "ab"}
# Numbers up to two, the greater one of two.
GREATER = {(one, other): max(one, other) for one in ["one", "two", "zero"] for other in ["one", "two", "zero"]}
NUMBERS = {("o", "o"): "o", ("o", "x"): "x", ("x", "o"): "x", ("x", "x"): "y", ("o", "y"): "y", ("y", "o"): "y",
           ("x", "y"): "y", ("y", "x"): "y", ("y", "y"): "y"}
ONE = {("a", "a"): "a"}
KINDS = [kind for signs in range(3) for kind in all_kinds(["n", "s"], signs)]


def some_worlds(many):
    """Worlds of n and s over several tables."""
    picked = random.Random(4)
    made = []
    for _ in range(many):
        table = picked.choice([ONE, PARITY, FIRSTS, LASTS, GREATER, NUMBERS] + all_tables(2))
        things = sorted({thing for pair in table for thing in pair})
        lots = {word: [thing for thing in things if picked.randrange(2)] for word in ["s", "n"]}
        made.append((table, lots, World(table, lots)))
    return made


def slow_row(table, lots, row):
    """The things of a row with the number of ways in which each comes."""
    ways = {}
    for chosen in itertools.product(*[slow_lot(table, lots, kind) for kind in row]):
        thing = chosen[0]
        for other in chosen[1:]:
            thing = table[thing, other]
        ways[thing] = ways.get(thing, 0) + 1
    return ways


class Worlds(unittest.TestCase):
    def test_methods(self):
        lots = {"s": ["b"], "n": [], "p": ["a", "b"]}
        world = World(dict(reversed(FIRSTS.items())), lots)
        self.assertEqual(world.things(), ["a", "b"])
        self.assertEqual(world.plains(), ["n", "p", "s"])
        self.assertEqual(list(world.table().items()), sorted(FIRSTS.items()))
        self.assertEqual(list(world.lots().items()), sorted(lots.items()))
        one = World(ONE, {"n": []})
        self.assertEqual((one.things(), one.plains(), one.table(), one.lots()), (["a"], ["n"], ONE, {"n": []}))
        self.assertEqual(World({("b", "b"): "b"}, {"n": ["b"]}).things(), ["b"])

    def test_never_changed(self):
        table, lots = dict(PARITY), {"n": ["odd"], "s": ["even"]}
        world = World(table, lots)
        table["even", "even"] = "odd"
        del table["odd", "odd"]
        lots["n"].append("p")
        lots["t"] = ["odd"]
        self.assertEqual((world.table(), world.lots()), (PARITY, PARITY_LOTS))
        world.table().clear()
        world.lots()["n"].clear()
        world.lots().clear()
        world.things().clear()
        world.plains().clear()
        lot_of(world, "n").clear()
        lot_of_row(world, ["n"]).clear()
        self.assertEqual((world.table(), world.lots()), (PARITY, PARITY_LOTS))
        self.assertEqual((world.things(), world.plains()), (["even", "odd"], ["n", "s"]))
        self.assertEqual((lot_of(world, "n"), lot_of_row(world, ["n"])), (["odd"], ["odd"]))

    def test_equal(self):
        self.assertTrue(World(PARITY, PARITY_LOTS) == WORLD)
        self.assertFalse(World(PARITY, PARITY_LOTS) != WORLD)
        turned_about = World(dict(reversed(PARITY.items())), dict(reversed(PARITY_LOTS.items())))
        self.assertTrue(turned_about == WORLD)
        for table, lots in [
            (PARITY, {"n": ["odd"]}), (PARITY, {"n": ["odd"], "s": []}), (PARITY, {"n": ["even"], "s": ["odd"]}),
            (PARITY, {"n": ["odd"], "t": ["even"]}), (PARITY, {"n": ["odd"], "s": ["even"], "t": []}),
            ({pair: "odd" for pair in PARITY}, PARITY_LOTS),
        ]:
            self.assertTrue(World(table, lots) != WORLD)
            self.assertFalse(World(table, lots) == WORLD)
            self.assertTrue(World(table, lots) == World(table, lots))
        for other in NO_WORLDS:
            self.assertFalse(WORLD == other)
            self.assertTrue(WORLD != other)
        made = some_worlds(40)
        for table, lots, world in made:
            for other_table, other_lots, other in made:
                self.assertIs(world == other, table == other_table and lots == other_lots)

    def test_wrong_tables_and_lots(self):
        for wrong in NO_TABLES:
            for lots in [PARITY_LOTS, None]:
                with self.assertRaises(InvalidTable) as caught:
                    World(wrong, lots)
                self.assertIs(caught.exception.value, wrong)
        for wrong in NO_LOTS:
            with self.assertRaises(InvalidLots) as caught:
                World(PARITY, wrong)
            self.assertIs(caught.exception.value, wrong)

    def test_just_the_associative_tables(self):
        for many in [2, 3]:
            things = ["a", "b", "c"][:many]
            pairs = list(itertools.product(things, repeat=2))
            columns = itertools.product(things, repeat=len(pairs))
            for column in itertools.islice(columns, 0, None, 1 if many == 2 else 37):
                table = dict(zip(pairs, column))
                fair = all(table[table[x, y], z] == table[x, table[y, z]] for x, y, z in itertools.product(things, repeat=3))
                if fair:
                    self.assertEqual(World(table, {"n": []}).table(), table)
                else:
                    with self.assertRaises(InvalidTable):
                        World(table, {"n": []})


class Lots(unittest.TestCase):
    def test_known(self):
        for kind, lot in [
            ("n", ["odd"]), ("s", ["even"]), (GOES, ["odd"]), (RAISED, ["odd"]), (("then", "n", "n"), ["even"]),
            (("over", "n", "s"), ["odd"]), (SEES, ["even"]), (PAIR, ["even"]),
        ]:
            self.assertEqual(lot_of(WORLD, kind), lot)
        # Of these, each x with each y comes to x.
        world = World(FIRSTS, {"n": ["a"], "s": ["a", "b"], "t": []})
        for kind, lot in [
            (("over", "n", "s"), ["a"]), (("over", "s", "n"), ["a", "b"]), (("under", "s", "n"), []), (GOES, ["a", "b"]),
            (("under", "n", "n"), ["a", "b"]), (("then", "n", "s"), ["a"]), (("then", "s", "n"), ["a", "b"]),
        ]:
            self.assertEqual(lot_of(world, kind), lot, kind)

    def test_empty_lots(self):
        world = World(FIRSTS, {"n": ["a"], "t": []})
        for kind, lot in [
            ("t", []), (("over", "n", "t"), ["a", "b"]), (("over", "t", "t"), ["a", "b"]), (("over", "t", "n"), []),
            (("under", "t", "n"), ["a", "b"]), (("under", "t", "t"), ["a", "b"]), (("under", "n", "t"), []),
            (("then", "n", "t"), []), (("then", "t", "n"), []), (("over", "n", ("then", "t", "n")), ["a", "b"]),
        ]:
            self.assertEqual(lot_of(world, kind), lot, kind)
        self.assertEqual(lot_of_row(world, ["n", "t", "n"]), [])
        self.assertIs(holds(world, ["t"], "n"), True)
        self.assertIs(holds(world, ["n"], "t"), False)

    def test_as_written_out(self):
        for table, lots, world in some_worlds(60):
            for kind in KINDS[::3]:
                self.assertEqual(lot_of(world, kind), sorted(slow_lot(table, lots, kind)), (table, lots, kind))

    def test_rows(self):
        picked = random.Random(8)
        for table, lots, world in some_worlds(150):
            row = [picked.choice(KINDS) for _ in range(picked.randint(1, 4))]
            ways = slow_row(table, lots, row)
            self.assertEqual(lot_of_row(world, row), sorted(ways))
            self.assertEqual([many_ways(world, row, thing) for thing in world.things()],
                             [ways.get(thing, 0) for thing in world.things()])
            kind = picked.choice(KINDS)
            lot = slow_lot(table, lots, kind)
            self.assertEqual(escaping(world, row, kind), sorted(set(ways) - lot))
            self.assertIs(holds(world, row, kind), set(ways) <= lot)

    def test_many_ways(self):
        both = World(PARITY, {"n": ["even", "odd"], "t": []})
        self.assertEqual(many_ways(both, ["n"], "odd"), 1)
        self.assertEqual(many_ways(both, ["n", "n"], "odd"), 2)
        self.assertEqual(many_ways(both, ["n"] * 20, "even"), 2 ** 19)
        self.assertEqual(many_ways(both, ["n", "t"], "odd"), 0)
        self.assertEqual(many_ways(WORLD, ["n", "n"], "odd"), 0)
        self.assertEqual(many_ways(World(FIRSTS, {"n": ["a", "b"]}), ["n", "n", "n"], "a"), 4)

    def test_what_a_row_gives_holds(self):
        known = {}
        rows = [[one] for one in KINDS[::2]] + [[one, other] for one in KINDS[::5] for other in KINDS[::7]]
        worlds = [world for _, _, world in some_worlds(25)]
        seen = 0
        for row in rows:
            for kind in KINDS[::3]:
                if slow_gives(tuple(row), kind, known):
                    seen += 1
                    self.assertTrue(all(holds(world, row, kind) for world in worlds), (row, kind))
        self.assertGreater(seen, 60)

    def test_errors(self):
        for function, arguments, made, value in [
            (many_ways, (WORLD, ["n"], "none"), InvalidLots, "none"), (many_ways, (WORLD, ["n"], "n"), InvalidLots, "n"),
            (many_ways, (WORLD, ["p"], "none"), InvalidRow, ["p"]), (many_ways, (None, ["p"], 0), InvalidWorld, None),
            (lot_of, (WORLD, ("over", "n", "p")), InvalidKind, ("over", "n", "p")), (lot_of, (5, "p"), InvalidWorld, 5),
            (lot_of_row, (WORLD, []), InvalidRow, []), (lot_of_row, (WORLD, ["n", "p"]), InvalidRow, ["n", "p"]),
            (holds, (WORLD, ["p"], "p"), InvalidRow, ["p"]), (holds, (WORLD, ["n"], "p"), InvalidKind, "p"),
            (escaping, (WORLD, ["n"], "p"), InvalidKind, "p"), (escaping, ({}, ["p"], "p"), InvalidWorld, {}),
        ]:
            with self.assertRaises(made) as caught:
                function(*arguments)
            self.assertEqual(caught.exception.value, value)


class Parting(unittest.TestCase):
    def judge(self, row, kind, many, world):
        self.assertIs(is_parting_world(row, kind, world), True)
        self.assertLessEqual(len(world.things()), many)
        self.assertEqual(world.plains(), sorted({word for part in row + [kind] for word in plains_of(part)}))
        self.assertIs(holds(world, row, kind), False)

    def test_all_worlds_tried(self):
        picked = random.Random(6)
        seen = []
        for _ in range(150):
            row = [picked.choice(KINDS) for _ in range(picked.choice([1, 1, 2]))]
            kind = picked.choice(KINDS)
            for many in [1, 2]:
                world = parting_world(row, kind, many)
                seen.append(world is None)
                if world is not None:
                    self.judge(row, kind, many, world)
                    continue
                plains = sorted({word for part in row + [kind] for word in plains_of(part)})
                for size in range(1, many + 1):
                    things = ["a", "b"][:size]
                    subsets = [list(some) for k in range(size + 1) for some in itertools.combinations(things, k)]
                    for table in all_tables(size):
                        for lots in itertools.product(subsets, repeat=len(plains)):
                            other = World(table, dict(zip(plains, lots)))
                            self.assertIs(is_parting_world(row, kind, other), False)
        self.assertTrue(50 < seen.count(True) < len(seen) - 50, seen.count(True))

    def test_known(self):
        self.judge(["n"], "s", 1, parting_world(["n"], "s", 1))
        self.judge(["n"], "s", 2, parting_world(["n"], "s", 2))
        self.assertIsNone(parting_world([GOES, "n"], "s", 1))
        self.judge([GOES, "n"], "s", 2, parting_world([GOES, "n"], "s", 2))
        for many in [1, 2]:
            self.assertIsNone(parting_world(["n", GOES], "s", many))
            self.assertIsNone(parting_world(["n"], "n", many))

    def test_not_parted_by_so_small_ones(self):
        row, kind = ["p", "p", "p"], ("over", ("then", "p", "p"), "p")
        self.assertIs(gives(row, kind), False)
        self.assertIsNone(parting_world(row, kind, 2))
        # Of three things, counted up to three: one and one are two, and all else is three.
        three = {(x, y): "three" for x in ["one", "three", "two"] for y in ["one", "three", "two"]}
        greater = World({**three, ("one", "one"): "two"}, {"p": ["one"]})
        self.assertIs(is_parting_world(row, kind, greater), True)
        rows = [["p"] * 3, ["p"] * 4, [("over", "p", "p")]]
        unparted = [(row, kind) for row in rows for kind in all_kinds(["p"], 2)
                    if not gives(row, kind) and parting_world(row, kind, 2) is None]
        self.assertIn((row, kind), unparted)
        for row, kind in unparted:
            for table in all_tables(2):
                for lot in [[], ["a"], ["b"], ["a", "b"]]:
                    self.assertIs(holds(World(table, {"p": lot}), row, kind), True)

    def test_more_plain_types_and_less(self):
        more = World(PARITY, {"n": ["odd"], "s": [], "t": ["odd"]})
        self.assertIs(is_parting_world(["n"], "s", more), True)
        self.assertIs(is_parting_world(["n", "p"], "s", more), False)
        self.assertIs(is_parting_world(["n"], "p", more), False)
        self.assertIs(is_parting_world(["s"], "n", more), False)
        self.assertIs(is_parting_world(["n", "n"], "t", more), True)
        for wrong in NO_WORLDS:
            self.assertIs(is_parting_world(["n"], "s", wrong), False)

    def test_errors(self):
        for row, kind, many, made in [
            (["n"], "s", True, InvalidCount), (["n"], "s", 0, InvalidCount), (["n"], "s", 3, InvalidCount),
            (["n"], "s", None, InvalidCount), (["n"], 1, 0, InvalidKind), ([], 1, 0, InvalidRow),
        ]:
            with self.assertRaises(made):
                parting_world(row, kind, many)


class RowsGiving(unittest.TestCase):
    def test_known(self):
        self.assertEqual(rows_giving(["n"], "n", 1), [["n"]])
        self.assertEqual(rows_giving(["n"], "s", 3), [])
        self.assertEqual(rows_giving([GOES, "n"], "s", 1), [])
        self.assertEqual(rows_giving([GOES, "n"], "s", 2), [["n", GOES]])
        before, after = ("over", "s", "s"), ("under", "s", "s")
        self.assertEqual(rows_giving([after, "s", before], "s", 1), [["s"]])
        self.assertEqual(rows_giving([after, "s", before], "s", 2), [["s"], ["s", after], [before, "s"]])
        self.assertEqual(rows_giving([after, "s", before], "s", 3), [
            ["s"], ["s", after], [before, "s"], ["s", after, after], [before, "s", after], [before, before, "s"],
        ])
        self.assertEqual(rows_giving([PAIR, "n", GOES], "s", 2), [[PAIR], ["n", GOES]])
        self.assertEqual(rows_giving([PAIR, "n", GOES], PAIR, 2), [[PAIR], ["n", GOES]])

    def test_as_written_out(self):
        picked = random.Random(9)
        known = {}
        for _ in range(60):
            kinds = picked.sample(KINDS[:40], picked.randint(1, 4))
            kind = picked.choice(KINDS[:30])
            for number in [1, 2, 3]:
                rows = [row for many in range(1, number + 1) for row in itertools.product(kinds, repeat=many)]
                self.assertEqual(rows_giving(kinds, kind, number),
                                 [list(row) for row in rows if slow_gives(row, kind, known)])

    def test_lots_of_the_world_of_rows(self):
        # What [34] says of types free of then, as far as rows of three types can show it.
        kinds = ["n", GOES, SEES]
        for kind in [kind for kind in KINDS if is_free(kind)][:12]:
            for row in rows_giving(kinds, ("over", kind, "n"), 2):
                self.assertIn(row + ["n"], rows_giving(kinds, kind, 3))

    def test_errors(self):
        for kinds, kind, number, made in [
            (["n", "n"], "n", 1, InvalidRow), ([], "n", 1, InvalidRow), ([GOES, "n", GOES], "n", 1, InvalidRow),
            (["n"], 1, 0, InvalidKind), (["n"], "n", 0, InvalidCount), (["n"], "n", 4, InvalidCount),
            (["n"], "n", True, InvalidCount), (["n", "n"], 1, 0, InvalidRow),
        ]:
            with self.assertRaises(made):
                rows_giving(kinds, kind, number)


class Tables(unittest.TestCase):
    def test_all_tables(self):
        self.assertEqual(all_tables(1), [{("a", "a"): "a"}])
        pairs = [("a", "a"), ("a", "b"), ("b", "a"), ("b", "b")]
        columns = ["aaaa", "aaab", "aabb", "abab", "abba", "abbb", "baab", "bbbb"]
        self.assertEqual([list(table.items()) for table in all_tables(2)],
                         [list(zip(pairs, column)) for column in columns])
        for wrong in [0, 3, True, None, "1"]:
            with self.assertRaises(InvalidCount) as caught:
                all_tables(wrong)
            self.assertIs(caught.exception.value, wrong)

    def test_turned_world(self):
        self.assertEqual(turned_world(World(FIRSTS, {"n": ["a"], "s": []})), World(LASTS, {"n": ["a"], "s": []}))
        self.assertEqual(turned_world(WORLD), WORLD)
        self.assertEqual(list(turned_world(World(FIRSTS, {"n": []})).table()), sorted(FIRSTS))
        picked = random.Random(12)
        for table, lots, world in some_worlds(120):
            other = turned_world(world)
            self.assertEqual(other.table(), {(x, y): table[y, x] for x, y in table})
            self.assertEqual(other.lots(), world.lots())
            self.assertEqual(turned_world(other), world)
            row = [picked.choice(KINDS) for _ in range(picked.randint(1, 3))]
            kind = picked.choice(KINDS)
            self.assertEqual(lot_of(other, turned(kind)), lot_of(world, kind))
            self.assertIs(holds(other, [turned(part) for part in row[::-1]], turned(kind)), holds(world, row, kind))


if __name__ == "__main__":
    unittest.main()
