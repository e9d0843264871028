"""Points [18] to [21]: what gives what, closed walls, cuts taken out."""

import random
import unittest

from phrasejoins.derivations import cuts_of, is_derivation_of, knots_of, plain_out, told_by, turned_derivation
from phrasejoins.forms import all_kinds, signs_of
from phrasejoins.giving import bar_of, derivation_of, gives, is_bar, steps_back, waits_for, without_cuts
from tests.samples import (
    CUT, DERIVATIONS, GOES, IS_N, IS_S, MADE, NO_KINDS, NO_ROWS, PAIR, RAISED, SEES, STEP, THEN, UNPACKED, slow_bar,
    slow_gives, slow_letters,
)

SMALL = all_kinds(["p"], 0) + all_kinds(["p"], 1)
MIXED = all_kinds(["p", "q"], 0) + all_kinds(["p", "q"], 1)


def rows_of(kinds, many):
    """All rows of so many types."""
    rows = [[]]
    for _ in range(many):
        rows = [row + [kind] for row in rows for kind in kinds]
    return rows


def asked_small():
    """Rows with goals, all of them that are small, and many of those that are somewhat greater."""
    asked = [(row, goal) for many in [1, 2] for row in rows_of(MIXED, many) for goal in MIXED]
    asked += [(row, goal) for row in rows_of(SMALL, 3) for goal in SMALL]
    picked = random.Random(5)
    greater = all_kinds(["p"], 2)
    while len(asked) < 6000:
        row = [picked.choice(SMALL + greater) for _ in range(picked.randint(1, 4))]
        goal = picked.choice(greater)
        if slow_letters(row) == slow_letters([goal]):
            asked.append((row, goal))
    return asked


class StepsBack(unittest.TestCase):
    def test_none(self):
        self.assertEqual(steps_back(["n"], "s"), [])
        self.assertEqual(steps_back([RAISED], "n"), [])
        self.assertEqual(steps_back([GOES, "n"], "s"), [])
        self.assertEqual(steps_back(["n"], PAIR), [])

    def test_goals(self):
        self.assertEqual(steps_back(["n"], ("over", "s", "p")), [[(["n", "p"], "s")]])
        self.assertEqual(steps_back(["n"], ("under", "p", "s")), [[(["p", "n"], "s")]])
        self.assertEqual(steps_back(["n", "p", "s"], ("then", "q", "r")), [
            [(["n"], "q"), (["p", "s"], "r")], [(["n", "p"], "q"), (["s"], "r")],
        ])

    def test_places(self):
        self.assertEqual(steps_back(["p", ("over", "s", "n"), "q", "r"], "t"), [
            [(["q"], "n"), (["p", "s", "r"], "t")], [(["q", "r"], "n"), (["p", "s"], "t")],
        ])
        self.assertEqual(steps_back(["q", "r", GOES, "p"], "t"), [
            [(["r"], "n"), (["q", "s", "p"], "t")], [(["q", "r"], "n"), (["s", "p"], "t")],
        ])
        self.assertEqual(steps_back(["p", ("then", "n", "s"), "q"], "t"), [[(["p", "n", "s", "q"], "t")]])

    def test_order(self):
        row = [("then", "a", "b"), ("under", "c", "d"), ("over", "e", "f"), "g"]
        self.assertEqual(steps_back(row, ("over", "h", "i")), [
            [(row + ["i"], "h")],
            [(["a", "b"] + row[1:], ("over", "h", "i"))],
            [([row[0]], "c"), (["d", row[2], "g"], ("over", "h", "i"))],
            [(["g"], "f"), (row[:2] + ["e"], ("over", "h", "i"))],
        ])
        self.assertEqual(steps_back([("over", "p", "p")] * 2, ("then", "p", "p")), [
            [([("over", "p", "p")], "p"), ([("over", "p", "p")], "p")],
            [([("over", "p", "p")], "p"), (["p"], ("then", "p", "p"))],
        ])

    def test_kinds_of_values(self):
        for way in steps_back(["n", SEES, "n", GOES], RAISED):
            self.assertIs(type(way), list)
            for told in way:
                self.assertEqual([type(told), len(told), type(told[0])], [tuple, 2, list])


class Giving(unittest.TestCase):
    def test_known(self):
        for row, goal in [
            (["n"], "n"), (["n"], RAISED), ([GOES], GOES), ([PAIR], PAIR), (["n", GOES], PAIR), ([PAIR], "s"),
            (["n", SEES, "n"], "s"), ([SEES], ("under", "n", ("over", "s", "n"))), ([RAISED, GOES], "s"),
            ([("over", "s", "n"), ("over", "n", "p")], ("over", "s", "p")),
            ([("over", "s", ("then", "n", "p"))], ("over", ("over", "s", "p"), "n")),
        ]:
            self.assertIs(gives(row, goal), True, (row, goal))
        for row, goal in [
            (["n"], "s"), ([RAISED], "n"), ([GOES, "n"], "s"), (["n", "n", GOES], "s"), (["n", "n"], "n"),
            ([PAIR], ("then", GOES, "n")), (["p", ("over", "p", "p")], "p"), ([("over", "p", "p")], ("under", "p", "p")),
            (["p"], ("over", "p", ("over", "p", "p"))), (["n", GOES], ("then", GOES, "n")),
        ]:
            self.assertIs(gives(row, goal), False, (row, goal))

    def test_as_by_trying_all(self):
        known = {}
        seen = []
        for row, goal in asked_small():
            given = gives(row, goal)
            seen.append(given)
            self.assertIs(given, slow_gives(tuple(row), goal, known), (row, goal))
            self.judge(row, goal, given)
        self.assertTrue(200 < seen.count(True) < len(seen) - 200)

    def judge(self, row, goal, given):
        derivation = derivation_of(row, goal)
        bar = bar_of(row, goal)
        if given:
            self.assertIsNone(bar)
            self.assertTrue(is_derivation_of(row, goal, derivation))
            self.assertEqual(cuts_of(derivation), 0)
            self.assertIs(is_bar(row, goal, [(row, goal)]), False)
        else:
            self.assertIsNone(derivation)
            self.assertIs(is_bar(row, goal, bar), True, (row, goal, bar))
            self.assertTrue(slow_bar(row, goal, bar, steps_back))

    def test_waits_for(self):
        self.assertEqual(waits_for([], "s", []), "s")
        self.assertEqual(waits_for(["a", "b"], "s", []), ("under", "b", ("under", "a", "s")))
        self.assertEqual(waits_for([], "s", ["y", "z"]), ("over", ("over", "s", "z"), "y"))
        told = ("under", "b", ("under", "a", ("over", ("over", "s", "z"), "y")))
        self.assertEqual(waits_for(["a", "b"], "s", ["y", "z"]), told)
        self.assertEqual(waits_for([GOES], PAIR, [SEES]), ("under", GOES, ("over", PAIR, SEES)))
        for row, goal in asked_small()[::25]:
            for first in range(len(row)):
                for last in range(first + 1, len(row) + 1):
                    waiting = waits_for(row[:first], goal, row[last:])
                    self.assertIs(gives(row[first:last], waiting), gives(row, goal))


class Bars(unittest.TestCase):
    def test_letters_alone(self):
        self.assertEqual(bar_of(["n"], "s"), [(["n"], "s")])
        self.assertIs(is_bar([GOES, SEES, "n"], PAIR, [([GOES, SEES, "n"], PAIR)]), True)
        self.assertIs(is_bar(["n"], "s", []), False)
        self.assertIs(is_bar(["n"], "s", [(["n"], "p")]), False)

    def test_order_and_doubles_mean_nothing(self):
        row, goal = [("over", ("under", "p", "p"), "p")], ("over", ("over", "p", "p"), "p")
        bar = bar_of(row, goal)
        self.assertGreater(len(bar), 2)
        self.assertIs(is_bar(row, goal, bar[::-1]), True)
        self.assertIs(is_bar(row, goal, bar + bar), True)

    def test_one_more_and_one_less(self):
        tried = 0
        for row, goal in asked_small()[::7]:
            bar = bar_of(row, goal) or []
            for place in range(len(bar)):
                less = bar[:place] + bar[place + 1:]
                self.assertIs(is_bar(row, goal, less), slow_bar(row, goal, less, steps_back))
                tried += 1
            if bar:
                self.assertIs(is_bar(row, goal, bar + [(["n"], "n")]), False)
                self.assertIs(is_bar(row, goal, bar + [(["n", GOES], "s")]), False)
                self.assertIs(is_bar(row, goal, bar + [(["n"], "s")]), True)
        self.assertGreater(tried, 500)

    def test_given_rows_have_none(self):
        for derivation, row, goal in DERIVATIONS:
            self.assertIsNone(bar_of(row, goal))
            entries = [(row, goal)] + [told for way in steps_back(row, goal) for told in way]
            self.assertIs(is_bar(row, goal, entries), False)
        self.assertIs(is_bar(["n"], "n", [(["n"], "n")]), False)
        self.assertIs(is_bar([GOES], GOES, [([GOES], GOES)]), False)

    def test_ways_are_stopped_by_one_of_two(self):
        row, goal = [("over", "p", ("over", "p", "p")), "p"], ("then", "p", ("over", "p", "p"))
        self.assertIs(gives(row, goal), False)
        self.assertTrue(is_bar(row, goal, bar_of(row, goal)))
        # Of both rows on the one way back each one alone stops it.
        row, goal = [("over", "p", "p"), ("over", "p", "p")], ("then", ("under", "p", "p"), ("under", "p", "p"))
        once = ([("over", "p", "p")], ("under", "p", "p"))
        bar = bar_of(row, goal)
        self.assertTrue(is_bar(row, goal, bar))
        self.assertIn(once, bar)

    def test_no_bars(self):
        bar = [(["n"], "s")]
        for wrong in [
            None, True, 0, "", "n", (), {}, tuple(bar), {0: bar[0]}, {("n",): "s"}, [["n", "s"]], [[["n"], "s"]],
            [("n", "s")], [(("n",), "s")], [(["n"],)], [(["n"], "s", "s")], [([], "s")], ["n"], [None], [()],
            [({}, "s")], [bar],
        ]:
            self.assertIs(is_bar(["n"], "s", wrong), False)
            if isinstance(wrong, list):
                self.assertIs(is_bar(["n"], "s", bar + wrong), False)
        for row in NO_ROWS:
            self.assertIs(is_bar(["n"], "s", bar + [(row, "s")]), False)
        for kind in NO_KINDS:
            self.assertIs(is_bar(["n"], "s", bar + [(["n"], kind)]), False)


class WithoutCuts(unittest.TestCase):
    def judge(self, derivation):
        row, goal = told_by(derivation)
        made = without_cuts(derivation)
        self.assertTrue(is_derivation_of(row, goal, made), derivation)
        self.assertEqual(cuts_of(made), 0)
        signs = signs_of(goal) + sum(signs_of(kind) for kind in row)
        self.assertEqual(knots_of(without_cuts(plain_out(derivation))), signs + (signs + len(row) + 1) // 2)

    def test_known(self):
        for derivation, row, goal in DERIVATIONS:
            self.judge(derivation)
            self.judge(turned_derivation(derivation))
        self.assertEqual(without_cuts(CUT), STEP)
        self.assertEqual(without_cuts(("cut", 0, IS_N, MADE)), MADE)
        self.assertEqual(without_cuts(("then made", CUT, IS_S)), ("then made", STEP, IS_S))

    def test_all_cuts_of_small_ones(self):
        told = []
        kinds = SMALL + all_kinds(["p"], 2)
        for row in rows_of(kinds, 1) + rows_of(SMALL, 2):
            for goal in kinds:
                derivation = derivation_of(row, goal)
                if derivation is not None:
                    told.append((derivation, row, goal))
        told += [(plain_out(derivation), row, goal) for derivation, row, goal in told] + DERIVATIONS
        cuts = []
        for one, one_row, one_goal in told:
            for other, row, goal in told:
                cuts += [("cut", place, one, other) for place in range(len(row)) if row[place] == one_goal]
        self.assertGreater(len(cuts), 500)
        for derivation in cuts:
            self.judge(derivation)

    def test_cuts_past_every_knot(self):
        # One with a row of three types is cut in at each place of others that end in each way.
        three = ("then made", ("then made", ("is", "a"), ("is", "b")), ("is", "c"))
        unpacked = ("then used", 0, ("then used", 0, three))
        packed = told_by(three)[1]
        for one in [three, ("then used", 0, three), unpacked, ("is", packed)]:
            for other in self.ending_in_each_way(("is", packed)):
                row = told_by(other)[0]
                for place in range(len(row)):
                    if row[place] == packed:
                        self.judge(("cut", place, one, other))

    def ending_in_each_way(self, said):
        """Derivations whose rows have a type at several places, ahead of and behind what the last knot uses."""
        four = ("then made", said, ("then made", ("is", "d"), ("then made", ("is", "e"), said)))
        ends = [four, ("over made", four), ("under made", four), ("then used", 1, four), ("then used", 0, four)]
        for place in range(4):
            for taken in [said, ("is", "d"), ("then made", said, ("is", "d")), ("then made", ("is", "d"), said)]:
                ends += [("over used", place, taken, four), ("under used", place, taken, four)]
        return ends

    def test_grown_ones(self):
        picked = random.Random(7)
        grown = [(("is", kind), [kind], kind) for kind in SMALL] + DERIVATIONS
        judged = 0
        while judged < 600:
            made = self.grow(picked, grown)
            row, goal = told_by(made)
            if knots_of(made) <= 60 and len(row) <= 5:
                self.judge(made)
                grown.append((made, row, goal))
                judged += 1
        self.assertGreater(max(cuts_of(made) for made, row, goal in grown), 8)

    def grow(self, picked, grown):
        """A derivation of one or two of those there are, mostly by a cut."""
        one = picked.choice(grown)[0]
        other, row, _ = picked.choice(grown)
        place = picked.randrange(len(row))
        if len(row) > 1 and picked.random() < 0.3:
            return picked.choice([("over made", other), ("under made", other), ("then used", len(row) - 2, other)])
        if picked.random() < 0.2:
            return (picked.choice(["over used", "under used"]), place, one, other)
        if picked.random() < 0.1:
            return ("then made", one, other)
        fitting = [made for made, _, goal in grown if goal == row[place] and made[0] != "is"]
        return ("cut", place, picked.choice(fitting), other) if fitting else turned_derivation(other)

    def test_cuts_within_cuts(self):
        for derivation in [
            ("cut", 0, ("cut", 0, THEN, ("is", PAIR)), ("cut", 0, ("is", PAIR), UNPACKED)),
            ("cut", 1, ("cut", 0, ("is", GOES), ("is", GOES)), ("cut", 0, ("cut", 0, IS_N, IS_N), STEP)),
            ("over used", 0, CUT, ("over made", ("cut", 0, CUT, ("then made", IS_S, CUT)))),
        ]:
            self.assertGreater(cuts_of(derivation), 2)
            self.judge(derivation)


if __name__ == "__main__":
    unittest.main()
