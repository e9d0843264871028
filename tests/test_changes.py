"""phrasejoins.changes: points [56] to [58]."""

import itertools
import unittest

from phrasejoins.changes import composing, dividing, packing, parting, raising, swapping
from phrasejoins.derivations import told_by
from phrasejoins.errors import InvalidKind, InvalidWord, Refused
from phrasejoins.giving import gives
from tests.samples import GOES, PAIR, RAISED, SEES

# Parts that are plain and parts that are not, some the same.
PARTS = list(itertools.product(["a", GOES, PAIR], ["b", SEES, PAIR], ["c", RAISED, PAIR]))


def over(one, other):
    return ("over", one, other)


def under(other, one):
    return ("under", other, one)


def then(one, other):
    return ("then", one, other)


class Changes(unittest.TestCase):
    def assert_tells(self, derivation, row, goal):
        self.assertEqual(told_by(derivation), (row, goal))
        self.assertTrue(gives(row, goal))

    def test_raising(self):
        for a, b, _ in PARTS:
            self.assert_tells(raising(a, b, "over"), [a], over(b, under(a, b)))
            self.assert_tells(raising(a, b, "under"), [a], under(over(b, a), b))

    def test_raising_by_other_words(self):
        for word in ["then", "Over", "", "n", None, True, 0, ["over"], ("over",), {}, over("a", "b")]:
            with self.assertRaises(InvalidWord) as caught:
                raising("a", "b", word)
            self.assertIs(caught.exception.value, word)
        with self.assertRaises(InvalidKind):
            raising("a", "B", "then")

    def test_composing(self):
        for a, b, c in PARTS:
            self.assert_tells(composing(over(a, b), over(b, c)), [over(a, b), over(b, c)], over(a, c))
            self.assert_tells(composing(under(c, b), under(b, a)), [under(c, b), under(b, a)], under(c, a))

    def test_composing_refused(self):
        for one, other in [
            ("a", "b"), ("a", over("a", "b")), (over("a", "b"), "b"), (over("a", "b"), over("c", "b")),
            (over("a", "b"), over("a", "c")), (over("a", "b"), under("b", "c")), (under("a", "b"), over("b", "c")),
            (under("a", "b"), under("c", "b")), (under("b", "c"), under("a", "b")), (over("b", "c"), over("a", "b")),
            (then("a", "b"), then("b", "c")), (over("a", "b"), then("b", "c")), (then("a", "b"), under("b", "c")),
            ("over", "under"), (over("a", "b"), "over"), (under("a", "b"), then("b", "c")), (then("a", "b"), over("b", "c")),
        ]:
            with self.assertRaises(Refused) as caught:
                composing(one, other)
            self.assertIs(caught.exception.value, other)

    def test_dividing(self):
        for a, b, c in PARTS:
            self.assert_tells(dividing(over(a, b), c), [over(a, b)], over(over(a, c), over(b, c)))
            self.assert_tells(dividing(under(b, a), c), [under(b, a)], under(under(c, b), under(c, a)))

    def test_swapping(self):
        for a, b, c in PARTS:
            self.assert_tells(swapping(over(under(b, a), c)), [over(under(b, a), c)], under(b, over(a, c)))
            self.assert_tells(swapping(under(b, over(a, c))), [under(b, over(a, c))], over(under(b, a), c))

    def test_parting(self):
        for a, b, c in PARTS:
            self.assert_tells(parting(over(a, then(b, c))), [over(a, then(b, c))], over(over(a, c), b))
            self.assert_tells(parting(under(then(b, c), a)), [under(then(b, c), a)], under(c, under(b, a)))

    def test_packing(self):
        for a, b, c in PARTS:
            self.assert_tells(packing(over(over(a, c), b)), [over(over(a, c), b)], over(a, then(b, c)))
            self.assert_tells(packing(under(c, under(b, a))), [under(c, under(b, a))], under(then(b, c), a))

    def test_there_and_back(self):
        for a, b, c in PARTS:
            for kind in [over(a, then(b, c)), under(then(b, c), a)]:
                self.assertEqual(told_by(packing(told_by(parting(kind))[1]))[1], kind)
            for kind in [over(under(b, a), c), under(b, over(a, c))]:
                self.assertEqual(told_by(swapping(told_by(swapping(kind))[1]))[1], kind)

    def test_both_shapes_at_once(self):
        kind = over(over("a", then("b", "c")), then("d", "e"))
        self.assertEqual(told_by(parting(kind))[1], over(over(over("a", then("b", "c")), "e"), "d"))
        self.assertEqual(told_by(packing(kind))[1], over("a", then(then("d", "e"), then("b", "c"))))
        kind = under(under("a", "b"), over("c", "d"))
        self.assertEqual(told_by(swapping(kind))[1], over(under(under("a", "b"), "c"), "d"))

    def test_refused(self):
        for function, more, kinds in [
            (dividing, ["c"], ["a", "over", then("a", "b"), then(over("a", "b"), "c")]),
            (swapping, [], [
                "a", over("a", "b"), over("a", under("b", "c")), under("a", "b"), under(over("a", "b"), "c"),
                over(over("a", "b"), "c"), under("a", under("b", "c")), then(under("a", "b"), "c"), over("under", "b"),
                then("a", over("b", "c")), over(then("a", "b"), "c"),
            ]),
            (parting, [], [
                "a", over("a", "b"), over(then("a", "b"), "c"), under("a", then("b", "c")), under("a", "b"),
                over("a", over("b", "c")), under(under("a", "b"), "c"), then("a", then("b", "c")), over("a", "then"),
                then(then("a", "b"), "c"),
            ]),
            (packing, [], [
                "a", over("a", "b"), over("a", over("b", "c")), under(under("a", "b"), "c"), over(under("a", "b"), "c"),
                under("a", over("b", "c")), over(then("a", "b"), "c"), under("a", then("b", "c")), over("over", "b"),
                then(over("a", "b"), "c"), then("a", under("b", "c")),
            ]),
        ]:
            for kind in kinds:
                with self.assertRaises(Refused) as caught:
                    function(kind, *more)
                self.assertIs(caught.exception.value, kind)

    def test_errors_ahead_of_refused(self):
        for function, arguments, wrong in [
            (composing, ["a", ["b"]], ["b"]), (composing, [1, "a"], 1), (dividing, ["a", None], None), (parting, [()], ()),
            (dividing, [["a"], None], ["a"]),
        ]:
            with self.assertRaises(InvalidKind) as caught:
                function(*arguments)
            self.assertEqual(caught.exception.value, wrong)


if __name__ == "__main__":
    unittest.main()
