"""phrasejoins.papers: points [67] and [68]."""

import random
import unittest

from phrasejoins.errors import InvalidPaper
from phrasejoins.forms import all_kinds
from phrasejoins.papers import kind_text, kinds_text, read_kind, read_kinds, read_row, row_text
from tests.samples import GOES, OBJECTS, PAIR, RAISED, SEES
from tests.test_limits import some_kind

WORDS = ["over", "under", "then", "end", "try", "p"]


def slow_text(kind):
    return kind if isinstance(kind, str) else f"({slow_text(kind[1])} {kind[0]} {slow_text(kind[2])})"


class Papers(unittest.TestCase):
    def test_texts_of_kinds(self):
        for kind, text in [
            ("n", "n"), (GOES, "(n under s)"), (SEES, "((n under s) over n)"), (PAIR, "(n then (n under s))"),
            (RAISED, "(s over (n under s))"), ("over", "over"), (("over", "over", "over"), "(over over over)"),
            (("then", "under", ("under", "then", "end")), "(under then (then under end))"), ("abcdefgh", "abcdefgh"),
        ]:
            self.assertEqual(kind_text(kind), text)
            self.assertEqual(read_kind(text), kind)
            self.assertEqual(row_text([kind]), text)
            self.assertEqual(kinds_text([kind]), text)

    def test_rows(self):
        row = ["n", PAIR, "over", GOES]
        self.assertEqual(row_text(row), "n, (n then (n under s)), over, (n under s)")
        self.assertEqual(kinds_text(row), "n\n(n then (n under s))\nover\n(n under s)")
        self.assertEqual(read_row("n, n, (n under s)"), ["n", "n", GOES])
        self.assertEqual(read_kinds("n\nn\n(n under s)"), ["n", "n", GOES])

    def test_what_is_written_is_read(self):
        picked = random.Random(4)
        kinds = [kind for number in range(4) for kind in all_kinds(["over", "p"], number)][::3]
        kinds += [some_kind(picked, signs, WORDS, ["over", "under", "then"]) for signs in range(31)]
        for kind in kinds:
            self.assertEqual(kind_text(kind), slow_text(kind))
            self.assertEqual(read_kind(slow_text(kind)), kind)
        self.assertEqual(read_row(row_text(kinds)), kinds)
        self.assertEqual(read_kinds(kinds_text(kinds)), kinds)

    def test_no_texts(self):
        for text in [
            "", " ", "n ", " n", "N", "n1", "ninechars", "n\n", "\tn", "(n under s) ", " (n under s)", "(n under s",
            "n under s)", "n under s", "((n under s)", "(n under s))", "((n under s))", "(n)", "()", "(n  under s)",
            "(n under  s)", "( n under s)", "(n under s )", "(n\tunder s)", "(n under\ts)", "(n\nunder s)", "(N under s)",
            "(n Under s)", "(n UNDER s)", "(n beside s)", "(n under s s)", "(n under)", "(under s)", "(n n under s)",
            "(n under s)(n under s)", "(n under s) (n under s)", "n n", "(", ")", "(n under (n under s)", "[n under s]",
            "(nunder s)", "(n unders)", "(n under s).", "(n,under s)", "('under', 'n', 's')", "(n under 1)", "(n under )",
            "( under s)", ")n under s(", "(n (under) s)", "(n under s) over n", "((n under s)over n)", "(n over(n under s))",
            "((n under s) over  n)", "(()", "(n under (s))", "n,", ",n", "over under then", "(  over  )", "(( over ( over (",
        ]:
            with self.assertRaises(InvalidPaper, msg=text) as caught:
                read_kind(text)
            self.assertIs(caught.exception.value, text)
            for read in [read_row, read_kinds]:
                for longer in ["n, " + text, "n\n" + text, text + ", n", text + "\nn", text]:
                    if read is read_kinds and text == "n\n" and longer == text:
                        continue
                    with self.assertRaises(InvalidPaper, msg=longer) as caught:
                        read(longer)
                    self.assertIs(caught.exception.value, longer)

    def test_no_texts_of_rows(self):
        for text in [
            "n,s", "n , s", "n,  s", "n, s,", "n, s, ", ", n", "n,, s", "n; s", "n s", "n\ns", "n, \ns", "n,\ts", "[n, s]",
            "(n, s)", "n, S",
        ]:
            with self.assertRaises(InvalidPaper) as caught:
                read_row(text)
            self.assertIs(caught.exception.value, text)
        for text in ["n\n", "\nn", "n\n\ns", "n \ns", "n\n s", "n, s", "n\n\n", "n\r\ns", "n\n\ts", "\n", "n\nS"]:
            with self.assertRaises(InvalidPaper) as caught:
                read_kinds(text)
            self.assertIs(caught.exception.value, text)

    def test_no_strings(self):
        for value in [None, True, 0, 3, [], ["n"], (), ("n",), GOES, {}, {"n": 1}] + OBJECTS:
            for read in [read_kind, read_row, read_kinds]:
                with self.assertRaises(InvalidPaper) as caught:
                    read(value)
                self.assertIs(caught.exception.value, value)


if __name__ == "__main__":
    unittest.main()
