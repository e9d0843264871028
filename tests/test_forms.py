"""Points [10] to [12]: types."""

import unittest

from phrasejoins.errors import InvalidMap
from phrasejoins.forms import all_kinds, is_free, is_kind, many_kinds, plains_of, put_for, signs_of, turned
from tests.samples import GOES, PAIR, RAISED, SEES, deep_kind, turned_slowly

ORDER = ["over", "then", "under"]


def rank(kind):
    """What types of as many signs are ordered by."""
    if isinstance(kind, str):
        return kind
    return (ORDER.index(kind[0]), signs_of(kind[1]), rank(kind[1]), rank(kind[2]))


class Kinds(unittest.TestCase):
    def test_is_kind(self):
        for kind in ["n", "abcdefgh", "over", "is", GOES, SEES, RAISED, PAIR, ("then", "then", "over")]:
            self.assertIs(is_kind(kind), True, kind)

    def test_signs(self):
        told = [signs_of(kind) for kind in ["n", GOES, SEES, RAISED, PAIR, ("then", PAIR, SEES)]]
        self.assertEqual(told, [0, 1, 2, 2, 2, 5])

    def test_plains(self):
        self.assertEqual(plains_of("n"), ["n"])
        self.assertEqual(plains_of(("over", "b", "ab")), ["ab", "b"])
        self.assertEqual(plains_of(("then", ("under", "q", "p"), ("over", "p", "over"))), ["over", "p", "q"])

    def test_free(self):
        self.assertIs(is_free("then"), True)
        self.assertIs(is_free(("over", ("under", "then", "n"), "s")), True)
        for kind in [PAIR, ("over", "n", ("then", "n", "n")), ("under", ("then", "n", "n"), "n")]:
            self.assertIs(is_free(kind), False)

    def test_turned(self):
        self.assertEqual(turned("n"), "n")
        self.assertEqual(turned(("over", "p", "q")), ("under", "q", "p"))
        self.assertEqual(turned(("under", "p", "q")), ("over", "q", "p"))
        self.assertEqual(turned(("then", "p", "q")), ("then", "q", "p"))
        for number in [0, 1, 2]:
            for kind in all_kinds(["p", "q"], number):
                self.assertEqual(turned(kind), turned_slowly(kind))
                self.assertEqual(turned(turned(kind)), kind)

    def test_put_for(self):
        self.assertEqual(put_for("n", {"n": SEES}), SEES)
        self.assertEqual(put_for(SEES, {"n": "s", "s": "n"}), ("over", ("under", "s", "n"), "s"))
        self.assertEqual(put_for(PAIR, {"s": PAIR, "n": "p"}), ("then", "p", ("under", "p", PAIR)))
        with self.assertRaises(InvalidMap):
            put_for("n", {"n": "p", "s": "q"})

    def test_all_kinds(self):
        self.assertEqual(all_kinds(["p", "q"], 0), ["p", "q"])
        told = [("over", "p", "p"), ("over", "p", "q"), ("over", "q", "p"), ("over", "q", "q")]
        self.assertEqual(all_kinds(["p", "q"], 1)[:4], told)
        self.assertEqual([kind[0] for kind in all_kinds(["p"], 1)], ORDER)
        self.assertEqual(all_kinds(["p"], 2)[:4], [
            ("over", "p", ("over", "p", "p")), ("over", "p", ("then", "p", "p")), ("over", "p", ("under", "p", "p")),
            ("over", ("over", "p", "p"), "p"),
        ])

    def test_all_kinds_are_all_and_in_order(self):
        for plains in [["p"], ["a", "b"], ["a", "ab", "b"]]:
            for number in [0, 1, 2]:
                kinds = all_kinds(plains, number)
                self.assertEqual(len(kinds), many_kinds(plains, number))
                self.assertEqual(len(set(kinds)), len(kinds))
                self.assertEqual(sorted(kinds, key=rank), kinds)
                for kind in kinds:
                    self.assertTrue(is_kind(kind) and signs_of(kind) == number)
                    self.assertTrue(set(plains_of(kind)) <= set(plains))

    def test_many_kinds(self):
        self.assertEqual([many_kinds(["p"], number) for number in range(5)], [1, 3, 18, 135, 1134])
        self.assertEqual([many_kinds(["p", "q", "r"], number) for number in range(3)], [3, 27, 486])
        self.assertEqual(many_kinds(["p", "q"], 20), 2 ** 21 * 3 ** 20 * 6564120420)

    def test_deep_kinds(self):
        for sign in ORDER:
            kind = deep_kind(sign, 300, "n", "s")
            self.assertEqual(signs_of(kind), 300)
            self.assertEqual(plains_of(kind), ["n", "s"])
            self.assertEqual(turned(turned(kind)), kind)
            self.assertEqual(signs_of(put_for(kind, {"n": GOES, "s": "n"})), 301)
            self.assertIs(is_kind(deep_kind(sign, 300, "n", 1)), False)


if __name__ == "__main__":
    unittest.main()
