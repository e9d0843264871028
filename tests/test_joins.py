"""phrasejoins.joins: points [51] to [55]."""

import itertools
import random
import unittest

from phrasejoins.derivations import told_by
from phrasejoins.errors import InvalidKind, InvalidPlace, InvalidRow, Refused
from phrasejoins.forms import all_kinds
from phrasejoins.giving import gives
from phrasejoins.joins import (
    and_type, can_join, can_join_at, is_joined, is_joined_at, is_why_not_joined, join_classes, joined, joined_at, joining,
    place_type, why_not_joined,
)
from phrasejoins.letters import turn_of
from tests.samples import GOES, IS_N, IS_S, MADE, PAIR, RAISED, SEES, STEP, THEN, slow_gives, slow_letters

BACK = ("over", "p", ("over", "p", "p"))
KINDS = [all_kinds(["p", "q"], number) for number in range(3)]
# With at most three types and signs together.
ROWS = [
    [kind] for kinds in KINDS for kind in kinds] + [
    [one, other] for one in KINDS[0] + KINDS[1] for other in KINDS[0]] + [
    [one, other] for one in KINDS[0] for other in KINDS[1]] + [
    list(row) for row in itertools.product("pq", repeat=3)]


def put_together(row):
    whole = row[0]
    for kind in row[1:]:
        whole = ("then", whole, kind)
    return whole


def joined_by(one, other, value):
    """Whether a tuple shows that two rows can be joined, judged by what its derivations tell."""
    if type(value) is not tuple or len(value) != 3:
        return False
    return [told_by(made) for made in value[1:]] == [(one, value[0]), (other, value[0])]


def joined_at_by(row, first, last, other, goal, value):
    if type(value) is not tuple or len(value) != 4:
        return False
    kind = value[0]
    whole = row[:first] + [kind] + row[last:]
    return [told_by(made) for made in value[1:]] == [(row[first:last], kind), (other, kind), (whole, goal)]


class Joins(unittest.TestCase):
    def test_can_join(self):
        for one, other, told in [
            (["n"], [RAISED], True), (["n"], ["s"], False), (["n", GOES], ["s"], True), (["p"], [BACK], True),
            (["n", "s"], ["n", "s"], True), (["n", "s"], ["s", "n"], False), (["n", "s"], [("then", "n", "s")], True),
            ([("over", "p", "p")], [("under", "q", "q")], True), (["p", ("over", "q", "q")], ["p"], True),
            ([("over", "q", "q"), "p"], ["p", ("under", "q", "q")], True),
        ]:
            self.assertIs(can_join(one, other), told)
            self.assertIs(can_join(other, one), told)
            value = joined(one, other)
            self.assertIs(value is not None, told)
            self.assertIs(is_joined(one, other, value), told)
            self.assertTrue(not told or joined_by(one, other, value))

    def test_rows_of_unlike_length(self):
        for one, other in itertools.product(ROWS[::7], ROWS[::3] + ROWS[-4:]):
            value = joined(one, other)
            if slow_letters(one) == slow_letters(other):
                self.assertTrue(joined_by(one, other, value))
                self.assertIs(is_joined(one, other, value), True)
                self.assertIsNone(why_not_joined(one, other))
            else:
                self.assertIsNone(value)
                self.assertIs(can_join(one, other), False)

    def test_is_joined(self):
        one, other = ["n", GOES], ["s"]
        self.assertIs(is_joined(one, other, ("s", STEP, IS_S)), True)
        self.assertIs(is_joined(other, one, ("s", IS_S, STEP)), True)
        self.assertIs(is_joined(["n"], ["n", GOES], (RAISED, MADE, MADE)), False)
        self.assertIs(is_joined(["n"], ["n"], (RAISED, MADE, MADE)), True)
        self.assertIs(is_joined(["n", GOES], ["n", GOES], (PAIR, THEN, THEN)), True)
        value = joined(["p"], [BACK])
        for bent in [
            list(value), value[:2], value + (value[2],), (value[0], value[2], value[1]), ("p",) + value[1:],
            (value[0], list(value[1]), value[2]), (list(value[0]), value[1], value[2]), (None,) + value[1:],
            (value[0], value[1], None), (value[0], value[1:]), {0: value[0]}, None, True,
        ]:
            self.assertIs(is_joined(["p"], [BACK], bent), False)

    def test_and_type(self):
        for kind in ["n", GOES, PAIR]:
            self.assertEqual(and_type(kind), ("over", ("under", kind, kind), kind))

    def test_joining(self):
        for one, other, kind in [
            (["n"], ["n"], "n"), (["n", GOES], ["s"], "s"), (["s"], ["n", SEES, "n"], "s"), (["n"], [RAISED], RAISED),
            (["n", SEES], ["n", SEES], ("over", "s", "n")), ([PAIR], ["n", GOES], "s"), ([GOES], [GOES], GOES),
        ]:
            derivation = joining(one, other, kind)
            self.assertEqual(told_by(derivation), (one + [and_type(kind)] + other, kind))
            self.assertTrue(gives(one + [and_type(kind)] + other, kind))

    def test_joining_refused(self):
        for one, other, kind in [
            (["n"], ["s"], "n"), (["n"], ["s"], "s"), (["n"], ["n"], "s"), (["n"], [RAISED], "n"), ([RAISED], ["n"], "n"),
        ]:
            with self.assertRaises(Refused) as caught:
                joining(one, other, kind)
            self.assertIs(caught.exception.value, kind)
        with self.assertRaises(InvalidKind) as caught:
            joining(["n"], ["s"], ["n"])
        self.assertEqual(caught.exception.value, ["n"])

    def test_place_type(self):
        for row, first, last, goal, kind in [
            (["n", SEES, "n"], 1, 3, "s", ("under", "n", "s")), (["n", GOES], 0, 1, "s", ("over", "s", GOES)),
            (["n", GOES], 0, 2, "s", "s"), (["a", "b", "c", "d", "e"], 2, 3, "f",
             ("under", "b", ("under", "a", ("over", ("over", "f", "e"), "d")))),
            (["a", "b"], 1, 2, PAIR, ("under", "a", PAIR)), (["a", "b", "c"], 0, 1, "f", ("over", ("over", "f", "c"), "b")),
        ]:
            self.assertEqual(place_type(row, first, last, goal), kind)

    def test_every_stretch(self):
        """A row that gives the place's type is one that gives the goal in the stretch's place, and so joined or not."""
        picked = random.Random(3)
        for row, goal in [
            (["n", SEES, "n"], "s"), (["n", ("then", SEES, "n")], "s"), (["p", ("under", "p", "p"), ("over", "p", "p"), "p"], "p"),
            ([("over", "p", "p"), ("over", "p", BACK), BACK], "p"), (["n", "n"], ("then", "n", "n")), (["n", GOES], "n"),
        ]:
            words = sorted({word for kind in row for word, sign in slow_letters([kind])} | {"p"})[:2]
            pool = [kind for number in range(3) for kind in all_kinds(words, number)]
            others = [picked.choices(pool[:14], k=length) for length in [1, 1, 2, 2, 3] for _ in range(6)] + [[goal], row]
            for first in range(len(row)):
                for last in range(first + 1, len(row) + 1):
                    self.judge_stretch(row, first, last, goal, others + [row[first:last]])

    def judge_stretch(self, row, first, last, goal, others):
        kind = place_type(row, first, last, goal)
        for other in others:
            placed = slow_gives(tuple(row[:first] + other + row[last:]), goal, {})
            self.assertIs(gives(other, kind), placed)
            can = placed and slow_gives(tuple(row), goal, {})
            self.assertIs(can_join_at(row, first, last, other, goal), can)
            value = joined_at(row, first, last, other, goal)
            self.assertIs(value is not None, can)
            self.assertIs(is_joined_at(row, first, last, other, goal, value), can)
            if can:
                self.assertTrue(joined_at_by(row, first, last, other, goal, value))
                between = row[first:last] + [and_type(value[0])] + other
                self.assertTrue(gives(row[:first] + between + row[last:], goal))

    def test_is_joined_at(self):
        asked = (["n", GOES], 0, 1, ["n"], "s")
        used = ("over used", 0, ("is", GOES), IS_S)
        for value in [("n", IS_N, IS_N, STEP), (RAISED, MADE, MADE, used), joined_at(*asked)]:
            self.assertIs(is_joined_at(*asked, value), True)
            self.assertTrue(joined_at_by(*asked, value))
            for bent in [
                list(value), value[:3], value + (STEP,), ("s",) + value[1:], (value[0], value[1], value[2], IS_S),
                (value[0], IS_S) + value[2:], (value[0], value[1], STEP, value[3]), (None,) + value[1:],
                (value[0], list(value[1])) + value[2:], (value[0],) + value[1:3] + (list(value[3]),), None, True, {},
            ]:
                self.assertIs(is_joined_at(*asked, bent), False)
        self.assertIs(is_joined_at(["n", GOES], 0, 1, [RAISED], "s", (RAISED, MADE, ("is", RAISED), used)), True)
        self.assertIs(is_joined_at(["n", GOES], 0, 1, [RAISED], "s", (RAISED, MADE, MADE, used)), False)
        self.assertIs(is_joined_at(["n", GOES], 0, 2, ["s"], "s", ("s", STEP, IS_S, IS_S)), True)
        self.assertIs(is_joined_at(["n", GOES], 1, 2, ["s"], "s", ("s", STEP, IS_S, IS_S)), False)

    def test_the_order_of_errors(self):
        for row, first, last, other, goal, made, wrong in [
            ([], 5, 5, [], 1, InvalidRow, []), (["n"], 1, 5, [], 1, InvalidPlace, 1), (["n"], 0, 2, [], 1, InvalidPlace, 2),
            (["n"], 0, 0, [], 1, InvalidPlace, 0), (["n"], 0, 1, [], 1, InvalidRow, []), (["n"], 0, 1, ["n"], 1, InvalidKind, 1),
            (["n"], False, 1, ["n"], "s", InvalidPlace, False), (["n", "n"], 0, True, ["n"], "s", InvalidPlace, True),
        ]:
            for function, more in [(can_join_at, []), (joined_at, []), (is_joined_at, [None])]:
                with self.assertRaises(made) as caught:
                    function(row, first, last, other, goal, *more)
                self.assertIs(type(caught.exception), made)
                self.assertEqual(repr(caught.exception.value), repr(wrong))

    def test_join_classes(self):
        for rows, classes in [
            ([["n"]], [[0]]), ([["n"], ["n"]], [[0, 1]]), ([["n"], ["s"], ["n"], ["s"]], [[0, 2], [1, 3]]),
            ([["n"], ["s"], ["n", GOES], [RAISED]], [[0, 3], [1, 2]]), ([["n", "s"], ["s", "n"], [("then", "n", "s")]], [[0, 2], [1]]),
            ([["s"], ["n"], ["p"]], [[0], [1], [2]]), ([[("over", "p", "p")], ["p"], [("under", "q", "q")]], [[0, 2], [1]]),
        ]:
            self.assertEqual(join_classes(rows), classes)
        rows = random.Random(9).sample(ROWS, 60)
        classes = join_classes(rows)
        self.assertEqual(sorted(place for some in classes for place in some), list(range(60)))
        self.assertEqual(classes, sorted(classes))
        kept = {place: number for number, some in enumerate(classes) for place in some}
        for one, other in itertools.combinations(range(60), 2):
            self.assertIs(kept[one] == kept[other], slow_letters(rows[one]) == slow_letters(rows[other]))
        self.assertTrue(all(some == sorted(some) for some in classes))

    def test_why_not_joined(self):
        for one, other in itertools.product(ROWS[::6], ROWS[::5]):
            turns = why_not_joined(one, other)
            self.assertIs(turns is None, slow_letters(one) == slow_letters(other))
            self.assertIs(is_why_not_joined(one, other, turns), turns is not None)
            if turns is not None:
                self.assertNotEqual(turn_of(turns, put_together(one)), turn_of(turns, put_together(other)))

    def test_is_why_not_joined(self):
        swap, still = [1, 0], [0, 1]
        for one, other, value, told in [
            (["n"], ["s"], {"n": swap, "s": still}, True), (["n"], ["s"], {"n": swap, "s": swap}, False),
            (["n"], ["s"], {"n": swap}, False), (["n"], ["s"], {"n": swap, "s": still, "p": swap}, True),
            (["n", "s"], ["s", "n"], {"n": swap, "s": still}, False), (["n", GOES], ["s"], {"n": swap, "s": still}, False),
            (["n", "s"], ["s", "n"], {"n": [1, 0, 2], "s": [0, 2, 1]}, True), (["n", "n"], ["s"], {"n": swap, "s": swap}, True),
            (["n"], ["s"], [("n", swap), ("s", still)], False), (["n"], ["s"], {"n": (1, 0), "s": still}, False),
        ]:
            self.assertIs(is_why_not_joined(one, other, value), told)


if __name__ == "__main__":
    unittest.main()
