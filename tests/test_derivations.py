"""Points [13] to [17]: derivations."""

import unittest

from phrasejoins.derivations import (
    cut_in, cuts_of, is_derivation, is_derivation_of, knots_of, plain_out, told_by, turned_derivation, with_put,
)
from phrasejoins.errors import InvalidDerivation, InvalidMap, InvalidPlace, Refused
from tests.samples import (
    CUT, DERIVATIONS, GOES, IS_N, IS_S, MADE, NO_DERIVATIONS, PAIR, RAISED, SEES, STEP, THEN, UNPACKED, USED,
    turned_slowly,
)


def kinds_said(derivation):
    """The types of all knots "is" of a derivation."""
    if derivation[0] == "is":
        return [derivation[1]]
    return [kind for part in derivation[1:] if isinstance(part, tuple) for kind in kinds_said(part)]


class Telling(unittest.TestCase):
    def test_told(self):
        for derivation, row, goal in DERIVATIONS:
            self.assertIs(is_derivation(derivation), True, derivation)
            told = told_by(derivation)
            self.assertEqual(told, (row, goal))
            self.assertEqual((type(told), type(told[0])), (tuple, list))

    def test_each_rule(self):
        three = ("then made", ("then made", ("is", "a"), ("is", "b")), ("is", "c"))
        abc = ("then", ("then", "a", "b"), "c")
        self.assertEqual(told_by(three), (["a", "b", "c"], abc))
        self.assertEqual(told_by(("over made", three)), (["a", "b"], ("over", abc, "c")))
        self.assertEqual(told_by(("under made", three)), (["b", "c"], ("under", "a", abc)))
        self.assertEqual(told_by(("then used", 0, three)), ([("then", "a", "b"), "c"], abc))
        self.assertEqual(told_by(("then used", 1, three)), (["a", ("then", "b", "c")], abc))
        pair = ("then made", ("is", "d"), ("is", "e"))
        de = ("then", "d", "e")
        self.assertEqual(told_by(("over used", 1, pair, three)), (["a", ("over", "b", de), "d", "e", "c"], abc))
        self.assertEqual(told_by(("under used", 1, pair, three)), (["a", "d", "e", ("under", de, "b"), "c"], abc))
        self.assertEqual(told_by(("over used", 2, pair, three)), (["a", "b", ("over", "c", de), "d", "e"], abc))
        self.assertEqual(told_by(("under used", 0, pair, three)), (["d", "e", ("under", de, "a"), "b", "c"], abc))
        one = ("over used", 0, ("is", "d"), ("is", "b"))
        self.assertEqual(told_by(("cut", 1, one, three)), (["a", ("over", "b", "d"), "d", "c"], abc))

    def test_is_derivation_of(self):
        for derivation, row, goal in DERIVATIONS:
            for other, other_row, other_goal in DERIVATIONS:
                same = row == other_row and goal == other_goal
                self.assertIs(is_derivation_of(row, goal, other), same)
            for wrong in NO_DERIVATIONS:
                self.assertIs(is_derivation_of(row, goal, wrong), False)

    def test_knots_and_cuts(self):
        self.assertEqual([knots_of(derivation) for derivation in [IS_N, STEP, MADE, USED, THEN, UNPACKED, CUT]],
                         [1, 3, 4, 3, 3, 4, 8])
        self.assertEqual([cuts_of(derivation) for derivation in [IS_N, STEP, CUT]], [0, 0, 1])
        self.assertEqual(cuts_of(("cut", 0, CUT, IS_S)), 2)
        self.assertEqual(cuts_of(("cut", 0, ("cut", 0, IS_N, IS_N), CUT)), 3)
        self.assertEqual(knots_of(("then made", CUT, CUT)), 17)


class Others(unittest.TestCase):
    def test_turned(self):
        self.assertEqual(turned_derivation(("is", GOES)), ("is", ("over", "s", "n")))
        self.assertEqual(turned_derivation(STEP), ("over used", 0, IS_N, IS_S))
        self.assertEqual(turned_derivation(MADE), ("under made", ("over used", 0, IS_N, IS_S)))
        self.assertEqual(turned_derivation(THEN), ("then made", ("is", ("over", "s", "n")), IS_N))
        three = ("then made", ("then made", ("is", "a"), ("is", "b")), ("is", "c"))
        other = ("then made", ("is", "c"), ("then made", ("is", "b"), ("is", "a")))
        self.assertEqual(turned_derivation(("then used", 0, three)), ("then used", 1, other))
        self.assertEqual(turned_derivation(("then used", 1, three)), ("then used", 0, other))
        self.assertEqual(turned_derivation(("over used", 0, IS_N, three)), ("under used", 2, IS_N, other))
        self.assertEqual(turned_derivation(("under used", 1, IS_N, three)), ("over used", 1, IS_N, other))
        self.assertEqual(turned_derivation(("cut", 2, ("is", "c"), three)), ("cut", 0, ("is", "c"), other))

    def test_turned_tells_all_turned(self):
        for derivation, row, goal in DERIVATIONS:
            for made in [derivation, ("then made", derivation, STEP), ("under used", len(row) - 1, CUT, derivation)]:
                row, goal = told_by(made)
                other = turned_derivation(made)
                told = ([turned_slowly(kind) for kind in reversed(row)], turned_slowly(goal))
                self.assertEqual(told_by(other), told)
                self.assertEqual(turned_derivation(other), made)
                self.assertEqual((knots_of(other), cuts_of(other)), (knots_of(made), cuts_of(made)))

    def test_with_put(self):
        sent = {"n": ("then", "p", "q"), "s": "n"}
        put = ("under used", 0, ("is", ("then", "p", "q")), ("is", "n"))
        self.assertEqual(with_put(STEP, sent), put)
        self.assertEqual(told_by(with_put(CUT, sent)), ([("then", "p", "q"), ("under", ("then", "p", "q"), "n")], "n"))
        self.assertEqual(cuts_of(with_put(CUT, sent)), 1)
        self.assertEqual(with_put(IS_N, {"n": GOES}), ("is", GOES))
        self.assertEqual(with_put(THEN, {"n": "s", "s": "n"}), ("then made", IS_S, ("is", ("under", "s", "n"))))
        with self.assertRaises(InvalidMap):
            with_put(IS_N, {"n": "p", "s": "q"})

    def test_plain_out(self):
        self.assertEqual(plain_out(IS_N), IS_N)
        for kind in [GOES, SEES, RAISED, PAIR, ("under", PAIR, ("then", SEES, PAIR))]:
            self.assertEqual(told_by(plain_out(("is", kind))), ([kind], kind))
        for derivation, row, goal in DERIVATIONS:
            plain = plain_out(derivation)
            self.assertEqual(told_by(plain), (row, goal))
            self.assertEqual(cuts_of(plain), cuts_of(derivation))
            self.assertTrue(all(isinstance(kind, str) for kind in kinds_said(plain)))

    def test_results_are_derivations(self):
        for derivation, row, goal in DERIVATIONS:
            self.assertTrue(is_derivation(plain_out(turned_derivation(derivation))))


class Cutting(unittest.TestCase):
    def test_cut_in(self):
        self.assertEqual(cut_in(MADE, USED, 0), ("cut", 0, MADE, USED))
        self.assertEqual(cut_in(("is", GOES), STEP, 1), ("cut", 1, ("is", GOES), STEP))
        self.assertEqual(cut_in(CUT, IS_S, 0), ("cut", 0, CUT, IS_S))

    def test_refused_last(self):
        for one, other, place in [(IS_N, IS_S, 0), (IS_N, STEP, 1), (STEP, USED, 0)]:
            with self.assertRaises(Refused) as caught:
                cut_in(one, other, place)
            self.assertIs(caught.exception.value, one)
        for one, other, place, made, value in [
            (IS_N, IS_S, 1, InvalidPlace, 1), (IS_N, IS_S, True, InvalidPlace, True),
            (IS_N, IS_S, None, InvalidPlace, None), ("n", IS_S, 5, InvalidDerivation, "n"),
            (IS_N, "s", 5, InvalidDerivation, "s"), ("n", "s", None, InvalidDerivation, "n"),
        ]:
            with self.assertRaises(made) as caught:
                cut_in(one, other, place)
            self.assertIs(caught.exception.value, value)


if __name__ == "__main__":
    unittest.main()
