"""Points [69] to [71]: knots known ahead, links, types between."""

import random
import unittest

from phrasejoins.derivations import cuts_of, knots_of, plain_out, told_by
from phrasejoins.errors import InvalidDerivation, InvalidKind, InvalidPlace, InvalidRow, Refused
from phrasejoins.forms import all_kinds, turned
from phrasejoins.giving import derivation_of, gives, without_cuts
from phrasejoins.letters import may_give
from phrasejoins.links import between, is_between, knots_ahead, links_of
from tests.samples import (
    CUT, DERIVATIONS, GOES, IS_N, IS_S, MADE, NO_DERIVATIONS, PAIR, RAISED, SEES, STEP, THEN, UNPACKED, all_derivations,
)


def asked_small(many, most, words):
    """Rows with goals that have their letters."""
    picked = random.Random(23)
    kinds = [all_kinds(words, signs) for signs in range(4)]
    asked = []
    while len(asked) < many:
        row = [picked.choice(kinds[picked.choice([0, 1, 1, 2, 2])]) for _ in range(picked.randint(1, most))]
        goal = picked.choice(kinds[picked.choice([0, 1, 1, 2, 3])])
        if may_give(row, goal):
            asked.append((row, goal))
    return asked


def spots(kind):
    """The plain types of a type with their signs in the order of its letters, nothing cancelled."""
    if isinstance(kind, str):
        return [(kind, 1)]
    first, second = spots(kind[1]), spots(kind[2])
    if kind[0] == "over":
        return first + back(second)
    return (first if kind[0] == "then" else back(first)) + second


def back(some):
    return [(word, -sign) for word, sign in some[::-1]]


def counts(kinds):
    """How often each plain type stands in some types."""
    many = {}
    for kind in kinds:
        for word, _ in spots(kind):
            many[word] = many.get(word, 0) + 1
    return many


class Knots(unittest.TestCase):
    def test_known(self):
        for row, goal, many in [
            (["n"], "n", 1), (["n"], "s", 1), (["n", "n"], "n", None), (["n", "n", "n"], "n", 2), (["n"], RAISED, 4),
            ([GOES], GOES, 4), (["n", GOES], "s", 3), ([PAIR], "s", 4), (["n", GOES], PAIR, 6), ([SEES], "n", 4),
            (["n", SEES, "n"], "s", 5), ([GOES], "n", None), (["n"], GOES, None), ([SEES, "n"], "s", None),
        ]:
            self.assertEqual(knots_ahead(row, goal), many, (row, goal))

    def test_each_derivation(self):
        for row, goal in asked_small(800, 3, ["p", "q"]):
            for made in all_derivations(row, goal)[:20]:
                self.assertEqual(knots_of(made), knots_ahead(row, goal), (row, goal))

    def test_cuts_taken_out(self):
        for derivation, row, goal in DERIVATIONS:
            self.assertEqual(knots_of(plain_out(without_cuts(derivation))), knots_ahead(row, goal))


class Links(unittest.TestCase):
    def test_known(self):
        for derivation, links in [
            (IS_N, [(0, 1)]), (STEP, [(0, 1), (2, 3)]), (MADE, [(0, 1), (2, 3)]), (THEN, [(0, 5), (1, 4), (2, 3)]),
            (("is", GOES), [(0, 3), (1, 2)]), (("is", SEES), [(0, 5), (1, 4), (2, 3)]), (UNPACKED, [(0, 1), (2, 3)]),
            (("is", ("over", "s", "n")), [(0, 3), (1, 2)]), (("is", PAIR), [(0, 5), (1, 4), (2, 3)]),
            (("over used", 0, IS_N, IS_S), [(0, 3), (1, 2)]), (("under made", STEP), [(0, 3), (1, 2)]),
            (("then made", IS_N, IS_S), [(0, 3), (1, 2)]), (("then used", 0, ("then made", IS_N, IS_S)), [(0, 3), (1, 2)]),
            (("over used", 1, IS_N, STEP), [(0, 1), (2, 5), (3, 4)]),
        ]:
            self.assertEqual(links_of(derivation), links, derivation)

    def test_is_of_types_that_are_not_plain(self):
        # On either side of a use: what is taken, and what is used.
        pair_over = ("over used", 0, ("is", PAIR), ("is", GOES))
        self.assertEqual(told_by(pair_over), ([("over", GOES, PAIR), PAIR], GOES))
        self.assertEqual(links_of(pair_over), [(0, 9), (1, 8), (2, 7), (3, 6), (4, 5)])
        pair_under = ("under used", 0, ("is", PAIR), ("is", GOES))
        self.assertEqual(told_by(pair_under), ([PAIR, ("under", PAIR, GOES)], GOES))
        self.assertEqual(links_of(pair_under), [(0, 5), (1, 4), (2, 3), (6, 9), (7, 8)])
        for made in [pair_over, pair_under, ("over made", pair_over), ("under made", pair_under), ("is", RAISED),
                     ("then used", 0, ("then made", ("is", SEES), ("is", PAIR))), ("over used", 1, ("is", GOES), pair_over),
                     ("under used", 0, pair_over, pair_under), ("over used", 1, pair_under, pair_over)]:
            self.assertEqual(links_of(made), links_of(plain_out(made)), made)
            self.judge(made)

    def test_links_join_like_with_like(self):
        for row, goal in asked_small(600, 3, ["p", "q"]):
            for made in all_derivations(row, goal)[:10]:
                self.judge(made)
            if gives(row, goal):
                self.judge(derivation_of(row, goal))

    def judge(self, made):
        row, goal = told_by(made)
        some = [spot for kind in row for spot in spots(kind)] + back(spots(goal))
        links = links_of(made)
        self.assertEqual(links, sorted(links))
        self.assertEqual(sorted(spot for link in links for spot in link), list(range(len(some))))
        for one, other in links:
            self.assertLess(one, other)
            self.assertEqual(some[one], (some[other][0], -some[other][1]))
            for later, end in links:
                self.assertTrue(later <= one or end < other or later > other)

    def test_kinds_of_values(self):
        for links in [links_of(STEP), links_of(IS_N)]:
            self.assertIs(type(links), list)
            self.assertTrue(all(type(link) is tuple and len(link) == 2 for link in links))

    def test_refused(self):
        for derivation in [CUT, ("cut", 0, IS_N, IS_N), ("over made", CUT), ("then made", IS_N, CUT)]:
            with self.assertRaises(Refused) as caught:
                links_of(derivation)
            self.assertIs(caught.exception.value, derivation)
            self.assertTrue(links_of(without_cuts(derivation)))
        for wrong in NO_DERIVATIONS + [("then made", CUT, "n")]:
            with self.assertRaises(InvalidDerivation) as caught:
                links_of(wrong)
            self.assertIs(caught.exception.value, wrong)


class Between(unittest.TestCase):
    def judge(self, row, goal):
        for first in range(len(row)):
            for last in range(first + 1, len(row) + 1):
                told = between(row, goal, first, last)
                self.assertIs(type(told), list)
                kind, inner, outer = told
                self.assertEqual(told_by(inner), (row[first:last], kind))
                self.assertEqual(told_by(outer), (row[:first] + [kind] + row[last:], goal))
                inside, outside = counts(row[first:last]), counts(row[:first] + row[last:] + [goal])
                for word, many in counts([kind]).items():
                    self.assertLessEqual(many, min(inside.get(word, 0), outside.get(word, 0)), (row, goal, first, last))
                self.assertIs(is_between(row, goal, first, last, told), True)

    def test_known(self):
        for row, goal, first, last, kind in [
            (["n"], "n", 0, 1, "n"), (["n", GOES], "s", 0, 1, "n"), (["n", GOES], "s", 1, 2, GOES),
            (["n", GOES], "s", 0, 2, "s"), (["n", SEES, "n"], "s", 1, 3, GOES), (["n"], RAISED, 0, 1, "n"),
            (["n", "s"], ("then", "n", "s"), 0, 2, ("then", "n", "s")), ([RAISED], RAISED, 0, 1, RAISED),
        ]:
            self.assertEqual(between(row, goal, first, last)[0], kind)
            self.judge(row, goal)

    def test_every_stretch(self):
        seen = [0, 0]
        for row, goal in asked_small(2500, 4, ["p", "q"]):
            if gives(row, goal):
                self.judge(row, goal)
            else:
                self.assertIsNone(between(row, goal, 0, 1))
            seen[gives(row, goal)] += 1
        self.assertGreater(min(seen), 200)

    def test_each_way_that_a_stretch_lies(self):
        for derivation in [
            ("over used", 1, ("then made", IS_N, ("then made", IS_S, IS_N)), ("then made", IS_N, ("then made", IS_S, IS_N))),
            ("under used", 1, ("then made", IS_N, ("then made", IS_S, IS_N)), ("then made", IS_N, ("then made", IS_S, IS_N))),
            ("then used", 1, ("then made", ("then made", IS_N, IS_S), ("then made", IS_N, IS_S))),
            ("over made", ("then made", ("then made", IS_N, IS_S), ("then made", IS_N, IS_S))),
            ("under made", ("then made", ("then made", IS_N, IS_S), ("then made", IS_N, IS_S))),
            ("over made", ("under made", ("over used", 1, ("then made", IS_N, IS_S), THEN))),
        ]:
            row, goal = told_by(derivation)
            self.judge(row, goal)

    def test_uses_on_the_border_of_a_stretch(self):
        made_late = [("over", "b", "e"), ("over", "e", "d")]
        for row, goal in [
            # What is taken begins ahead of the stretch, and something stands ahead of it.
            (["q", "a", "b", ("under", ("then", "a", "b"), ("under", "q", "s"))], "s"),
            # The stretch has some of what is taken and some of what stands beyond; one of both is made late.
            (made_late + ["a", "c", ("under", ("then", "a", "c"), ("under", ("over", "b", "d"), "s"))], "s"),
            (["r"] + made_late + ["c", ("under", ("then", ("over", "b", "d"), "c"), ("under", "r", "s"))], "s"),
        ]:
            self.assertTrue(gives(row, goal))
            self.judge(row, goal)
            self.judge([turned(kind) for kind in row[::-1]], turned(goal))

    def test_not_given(self):
        for row, goal in [(["n", "n"], "s"), ([GOES, "n"], "s"), ([RAISED], "n"), (["n", GOES], "n")]:
            for first in range(len(row)):
                for last in range(first + 1, len(row) + 1):
                    self.assertIsNone(between(row, goal, first, last))
                    self.assertIs(is_between(row, goal, first, last, None), False)
                    self.assertIs(is_between(row, goal, first, last, [row[first], ("is", row[first]), IS_N]), False)

    def test_derivations_without_cuts(self):
        told = between(["n", SEES, "n"], "s", 0, 2)
        self.assertEqual([cuts_of(told[1]), cuts_of(told[2])], [0, 0])

    def test_is_between(self):
        row = ["n", SEES, "n"]
        used = ("over used", 0, IS_N, ("is", GOES))
        step = ("under used", 0, IS_N, IS_S)
        for value, told in [
            ([GOES, used, step], True), ((GOES, used, step), False), ([GOES, used], False), ([GOES, step, used], False),
            ([GOES, used, step, step], False), ([GOES, ("cut", 0, used, ("is", GOES)), step], True),
            ([GOES, used, ("cut", 1, ("is", GOES), step)], True), (["s", used, step], False), (None, False),
            ([GOES, list(used), step], False), ([GOES, used, "s"], False), ({0: GOES, 1: used, 2: step}, False),
        ]:
            self.assertIs(is_between(row, "s", 1, 3, value), told)

    def test_no_plain_type_too_often(self):
        # A type that the stretch gives and that gives the goal with the rest, but with more plain types.
        raised = ("over", "s", GOES)
        value = [raised, ("over made", STEP), ("over used", 0, ("is", GOES), IS_S)]
        self.assertEqual([told_by(value[1]), told_by(value[2])], [(["n"], raised), ([raised, GOES], "s")])
        self.assertIs(is_between(["n", GOES], "s", 0, 1, value), False)
        # Often enough in the stretch, but not in the rest; and the other way round.
        stretch = ("over", "n", "n")
        self.assertIs(is_between([stretch, "n"], "n", 0, 1, [stretch, ("is", stretch), derivation_of([stretch, "n"], "n")]), True)
        plain = [PAIR, derivation_of(["n", GOES], PAIR), derivation_of([PAIR], "s")]
        self.assertIs(is_between(["n", GOES], "s", 0, 2, plain), False)
        self.assertIs(is_between([PAIR], PAIR, 0, 1, [PAIR, ("is", PAIR), ("is", PAIR)]), True)
        self.assertIs(is_between([PAIR], PAIR, 0, 1, ["s", derivation_of([PAIR], "s"), IS_S]), False)
        self.assertIs(is_between(["s"], RAISED, 0, 1, [IS_S, IS_S, IS_S]), False)

    def test_errors(self):
        for row, goal, first, last, made, value in [
            (["n"], "n", 1, 2, InvalidPlace, 1), (["n"], "n", 0, 0, InvalidPlace, 0), (["n"], "n", 0, 2, InvalidPlace, 2),
            (["n", "n"], "n", 1, 1, InvalidPlace, 1), (["n"], "n", True, 1, InvalidPlace, True),
            (["n"], "n", 0, True, InvalidPlace, True), (["n"], "n", -1, 1, InvalidPlace, -1),
            (["n"], "n", None, 5, InvalidPlace, None), (["n"], "n", 5, None, InvalidPlace, 5),
            (["n"], None, 5, 5, InvalidKind, None), ([], None, 5, 5, InvalidRow, []), (["n"], "s", 0, 9, InvalidPlace, 9),
            (["n", GOES], "s", False, 1, InvalidPlace, False),
        ]:
            for function, more in [(between, []), (is_between, [None])]:
                with self.assertRaises(made) as caught:
                    function(row, goal, first, last, *more)
                self.assertEqual(repr(caught.exception.value), repr(value))


if __name__ == "__main__":
    unittest.main()
