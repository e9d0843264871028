"""phrasejoins.bounds: points [45] to [50]."""

import itertools
import unittest

from phrasejoins.bounds import (
    above, below, is_above, is_above_paper, is_below, is_below_paper, least_above, lowered, raised,
)
from phrasejoins.chains import are_alike
from phrasejoins.derivations import cuts_of, told_by
from phrasejoins.errors import InvalidDerivation, Refused
from phrasejoins.forms import all_kinds, signs_of
from phrasejoins.giving import gives
from phrasejoins.joins import can_join
from tests.samples import CUT, GOES, IS_N, IS_S, MADE, PAIR, RAISED, STEP, THEN, UNPACKED, USED, slow_gives, slow_letters

BACK = ("over", "p", ("over", "p", "p"))
UNITS = [(sign, word, word) for word in "pqr" for sign in ["over", "under"]]
SMALL = [kind for number in range(3) for kind in all_kinds(["p", "q"], number)]
# What raises s to n's being under s.
MADE_S = ("under made", ("over used", 0, IS_N, IS_S))


def above_by(kinds, paper):
    """Whether a list shows a type above all of some, judged by what its derivations tell."""
    if type(paper) is not list or len(paper) != len(kinds) + 1:
        return False
    return [told_by(made) for made in paper[1:]] == [([kind], paper[0]) for kind in kinds]


def below_by(kinds, paper):
    if type(paper) is not list or len(paper) != len(kinds) + 1:
        return False
    return [told_by(made) for made in paper[1:]] == [([paper[0]], kind) for kind in kinds]


def slow_least(kinds, plains, number):
    """The first type above all, written out as the document tells it."""
    for signs in range(number + 1):
        for kind in all_kinds(plains, signs):
            if all(slow_gives((one,), kind, {}) for one in kinds):
                return kind
    return None


class Bounds(unittest.TestCase):
    def test_is_above(self):
        for kinds, value, told in [
            (["n", RAISED], RAISED, True), (["n", RAISED], "n", False), (["n"], "n", True), ([RAISED], "n", False),
            ([GOES], GOES, True), (["n", "s"], "n", False), (["n", "n"], RAISED, True), (["n", RAISED, "s"], RAISED, False),
            ([RAISED, "n"], RAISED, True), (["n"], ("over", GOES, GOES), False), ([PAIR], "s", True), (["s"], PAIR, False),
        ]:
            self.assertIs(is_above(kinds, value), told, (kinds, value))

    def test_is_below(self):
        for kinds, value, told in [
            (["n", RAISED], "n", True), (["n", RAISED], RAISED, False), (["n"], "n", True), ([RAISED], "n", True),
            (["n"], RAISED, False), (["n", "s"], "n", False), ([RAISED, RAISED], "n", True), ([RAISED, "s"], "n", False),
            (["s", PAIR], PAIR, True), (["s", PAIR], "s", False), (["s"], PAIR, True), ([GOES], GOES, True),
        ]:
            self.assertIs(is_below(kinds, value), told, (kinds, value))

    def test_above_and_below_small_kinds(self):
        for one, other in itertools.product(SMALL[::4], SMALL[::3]):
            self.assertIs(is_above([other], one), gives([other], one))
            self.assertIs(is_below([other], one), gives([one], other))

    def test_raised(self):
        low_by_low = ("over", "n", "n")
        for first, second, one, other, low in [
            (IS_N, MADE, "n", RAISED, "n"), (MADE, IS_N, RAISED, "n", "n"), (IS_N, IS_N, "n", "n", "n"),
            (MADE, MADE, RAISED, RAISED, "n"), (UNPACKED, ("is", PAIR), "s", PAIR, PAIR),
            (("then used", 0, THEN), UNPACKED, PAIR, "s", PAIR),
            (("cut", 0, MADE, ("is", RAISED)), ("cut", 0, IS_N, ("cut", 0, IS_N, IS_N)), RAISED, "n", "n"),
            (("then used", 0, CUT), ("is", PAIR), "s", PAIR, PAIR),
        ]:
            kind = ("under", ("over", low, one), ("over", low, ("under", other, low)))
            self.assertEqual(raised(first, second)[0], kind)
            self.assertTrue(above_by([one, other], raised(first, second)))
        self.assertEqual(raised(IS_N, IS_N)[0], ("under", low_by_low, ("over", "n", ("under", "n", "n"))))

    def test_lowered(self):
        for first, second, one, other, high in [
            (MADE, ("is", RAISED), "n", RAISED, RAISED), (("is", RAISED), MADE, RAISED, "n", RAISED),
            (IS_N, IS_N, "n", "n", "n"), (MADE, MADE, "n", "n", RAISED), (UNPACKED, IS_S, PAIR, "s", "s"),
            (IS_S, ("then used", 0, CUT), "s", PAIR, "s"), (("cut", 0, UNPACKED, IS_S), UNPACKED, PAIR, PAIR, "s"),
            (("cut", 0, IS_N, MADE), ("cut", 0, ("is", RAISED), ("is", RAISED)), "n", RAISED, RAISED),
        ]:
            kind = ("then", ("then", ("over", one, high), high), ("under", high, other))
            self.assertEqual(lowered(first, second)[0], kind)
            self.assertTrue(below_by([one, other], lowered(first, second)))

    def test_cuts_may_stay(self):
        self.assertGreater(cuts_of(("cut", 0, IS_N, MADE)), 0)
        for made in raised(("cut", 0, IS_N, MADE), MADE)[1:] + lowered(("cut", 0, IS_N, MADE), MADE)[1:]:
            told_by(made)

    def test_refused(self):
        for function, first, second in [
            (raised, IS_N, IS_S), (raised, STEP, IS_N), (raised, IS_N, STEP), (raised, STEP, STEP), (raised, MADE, IS_S),
            (raised, IS_N, ("is", RAISED)), (raised, STEP, THEN), (raised, USED, USED), (lowered, IS_N, IS_S),
            (lowered, STEP, IS_S), (lowered, IS_S, STEP), (lowered, STEP, STEP), (lowered, MADE, IS_N), (lowered, THEN, THEN),
            (lowered, IS_N, MADE), (lowered, UNPACKED, STEP),
        ]:
            with self.assertRaises(Refused) as caught:
                function(first, second)
            self.assertIs(caught.exception.value, second)
        for function in [raised, lowered]:
            for first, second, wrong in [(STEP, None, None), ((), IS_S, ()), ([], None, [])]:
                with self.assertRaises(InvalidDerivation) as caught:
                    function(first, second)
                self.assertEqual(caught.exception.value, wrong)

    def test_above_and_below_two(self):
        for one, other in itertools.product(SMALL[::3], SMALL[::4]):
            kinds = [one, other]
            if slow_letters([one]) == slow_letters([other]):
                self.assertTrue(above_by(kinds, above(kinds)))
                self.assertTrue(below_by(kinds, below(kinds)))
                self.assertIs(is_above_paper(kinds, above(kinds)), True)
                self.assertIs(is_below_paper(kinds, below(kinds)), True)
            else:
                self.assertIsNone(above(kinds))
                self.assertIsNone(below(kinds))
            self.assertIs(above(kinds) is not None, are_alike(one, other))
            self.assertIs(below(kinds) is not None, can_join([one], [other]))

    def test_one_kind_alone_and_doubles(self):
        for kinds in [
            ["p"], [BACK], ["p", "p"], [BACK, BACK, BACK], ["p", BACK], [BACK, "p"], ["p", BACK, "p"],
            ["p", "p", BACK, BACK], [("over", "p", "p"), ("under", "p", "p"), ("over", "p", "p")],
        ]:
            self.assertTrue(above_by(kinds, above(kinds)), kinds)
            self.assertTrue(below_by(kinds, below(kinds)), kinds)

    def test_what_is_above_itself_is_told_as_it_is(self):
        self.assertEqual(above([PAIR]), [PAIR, ("is", PAIR)])
        self.assertEqual(below(["p", "p"]), ["p", ("is", "p"), ("is", "p")])
        one = ("then", ("then", "n", "s"), "n")
        other = ("then", "n", ("then", "s", "n"))
        self.assertEqual(above([one, other])[0], one)
        self.assertEqual(below([one, other])[0], other)
        self.assertEqual([cuts_of(made) for made in above([one, other])[1:] + below([one, other])[1:]], [0, 0, 0, 0])

    def test_three_and_more(self):
        for kinds in [
            UNITS[:3], UNITS[1:4], UNITS[::2], UNITS, UNITS[::-1], UNITS + UNITS, [UNITS[0], UNITS[3], UNITS[0], UNITS[5]],
            [("then", "p", "q")] * 3, ["p", "p", "p"],
        ]:
            self.assertTrue(above_by(kinds, above(kinds)), kinds)
            self.assertTrue(below_by(kinds, below(kinds)), kinds)
        for kinds in [["p", "q"], ["p", "p", "q"], ["p", BACK, "q"], UNITS + ["p"], ["p", ("over", "p", "p"), "p"]]:
            self.assertIsNone(above(kinds))
            self.assertIsNone(below(kinds))

    def test_papers_that_show_nothing(self):
        kinds = ["p", BACK]
        for judge, paper in [(is_above_paper, above(kinds)), (is_below_paper, below(kinds))]:
            self.assertIs(judge(kinds, paper), True)
            self.assertIs(judge(kinds[::-1], [paper[0], paper[2], paper[1]]), True)
            bent = [
                tuple(paper), paper[:2], paper[:1], paper + [paper[2]], [paper[0], paper[2], paper[1]], paper[1:], [],
                ["p"] + paper[1:], [list(paper[0])] + paper[1:], [None] + paper[1:], [paper[0], paper[1], None],
                [paper[0], list(paper[1]), paper[2]], [paper[0], ("is", "p"), paper[2]], {}, None, True, paper[0], paper[1],
                [paper[0], paper[1:]], [("over", paper[0], "p")] + paper[1:], dict(enumerate(paper)),
            ]
            for value in bent:
                self.assertIs(judge(kinds, value), False, value)
            self.assertIs(judge(["p"], paper), False)
            self.assertIs(judge(kinds + ["p"], paper), False)
            self.assertIs(judge(["p", "p"], paper), False)
        self.assertIs(is_above_paper(["p"], ["p", ("is", "p")]), True)
        self.assertIs(is_below_paper(["p"], ["p", ("is", "p")]), True)
        self.assertIs(is_above_paper(["n"], [RAISED, MADE]), True)
        self.assertIs(is_below_paper(["n"], [RAISED, MADE]), False)
        self.assertIs(is_below_paper([RAISED], ["n", MADE]), True)

    def test_least_above(self):
        for kinds, plains, number, least in [
            (["p"], ["p"], 0, "p"), (["p"], ["p", "q"], 0, "p"), (["p"], ["q"], 1, None), (["p", "q"], ["p", "q"], 1, None),
            (["p", BACK], ["p"], 2, None), ([("over", "p", "p")], ["p"], 0, None),
            ([("over", "p", "p")], ["p"], 1, ("over", "p", "p")), ([BACK], ["p"], 2, BACK), ([BACK], ["p"], 1, None),
            ([("then", ("over", "p", "q"), "q"), "p"], ["p", "q"], 1, "p"), (["n"], ["n", "s"], 0, "n"),
        ]:
            self.assertEqual(least_above(kinds, plains, number), least, (kinds, plains, number))
        kinds = [kind for number in range(3) for kind in all_kinds(["p"], number)]
        for one, other in itertools.product(kinds, kinds):
            self.assertEqual(least_above([one, other], ["p"], 2), slow_least([one, other], ["p"], 2))
        for one in all_kinds(["p", "q"], 1) + all_kinds(["p", "q"], 2)[::5]:
            self.assertEqual(least_above([one], ["p", "q"], 1), slow_least([one], ["p", "q"], 1))

    def test_the_least_is_the_first(self):
        # Both ("over", "p", "p") under "p" and others of two signs are above "p"; the first of them is told.
        found = [kind for kind in all_kinds(["p"], 2) if is_above([("then", ("over", "p", "p"), "p")], kind)]
        self.assertGreater(len(found), 1)
        self.assertEqual(least_above([("then", ("over", "p", "p"), "p")], ["p"], 2), "p")
        self.assertEqual(signs_of(least_above(["p", BACK], ["p"], 4)), 4)


if __name__ == "__main__":
    unittest.main()
