"""Point [3]: calls at the limits end soon, also those on what was returned and is nested deep."""

import random
import time
import unittest

from phrasejoins.derivations import (
    cuts_of, is_derivation, is_derivation_of, knots_of, plain_out, told_by, turned_derivation, with_put,
)
from phrasejoins.forms import all_kinds, many_kinds, plains_of, put_for, signs_of, turned
from phrasejoins.giving import bar_of, derivation_of, gives, is_bar, steps_back, waits_for, without_cuts
from phrasejoins.letters import (
    are_letters, are_parting_turns, are_round, letters_of, letters_of_row, parting_turns, plain_form, put_letters,
    turn_of, turned_back,
)
from phrasejoins.links import between, is_between, knots_ahead, links_of
from phrasejoins.readings import head_of, many_readings, waits_of
from phrasejoins.worlds import (
    World, escaping, holds, is_parting_world, lot_of, lot_of_row, many_ways, parting_world, rows_giving, turned_world,
)
from tests.samples import STEP, deep_kind, slow_bar, slow_letters

SECONDS = 20
P_OVER = ("over", "p", "p")
P_UNDER = ("under", "p", "p")
P_THEN = ("then", "p", "p")


def some_kind(picked, signs, words, names):
    if signs == 0:
        return picked.choice(words)
    first = picked.randrange(signs)
    one, other = some_kind(picked, first, words, names), some_kind(picked, signs - 1 - first, words, names)
    return (picked.choice(names), one, other)


def greatest_asked(many, choices=(["over"], ["over", "under"], ["over", "then"], ["over", "under", "then"])):
    """Rows of five types with twelve signs and goals of four that have their letters."""
    picked = random.Random(11)
    asked = []
    while len(asked) < many:
        signs = [0] * 5
        for _ in range(12):
            signs[picked.randrange(5)] += 1
        names = picked.choice(choices)
        words = picked.choice(["p", "p", "pq"])
        row = [some_kind(picked, number, words, names) for number in signs]
        goal = some_kind(picked, 4, words, names)
        if slow_letters(row) == slow_letters([goal]):
            asked.append((row, goal))
    return asked


class Limits(unittest.TestCase):
    def setUp(self):
        self.began = time.monotonic()

    def tearDown(self):
        self.assertLess(time.monotonic() - self.began, SECONDS)

    def test_searches(self):
        for row, goal in greatest_asked(300):
            derivation, bar = derivation_of(row, goal), bar_of(row, goal)
            self.assertIs(gives(row, goal), bar is None)
            if bar is None:
                self.assertTrue(is_derivation_of(row, goal, derivation))
            else:
                self.assertIsNone(derivation)
                self.assertTrue(is_bar(row, goal, bar))
                self.assertLess(len(bar), 5000)

    def test_hard_searches(self):
        three = ("then", P_THEN, P_THEN)
        for row, goal in [
            ([P_OVER] * 5, ("then", ("then", P_OVER, P_UNDER), P_OVER)),
            ([three, P_THEN, P_THEN, three, P_THEN], ("then", ("over", three, "p"), "p")),
            ([deep_kind("over", 4), P_THEN, P_THEN, P_THEN, deep_kind("over", 4)], deep_kind("over", 4)),
            ([("over", P_OVER, P_OVER), ("under", P_UNDER, P_UNDER), P_OVER, ("over", P_UNDER, P_UNDER), P_UNDER],
             ("over", P_OVER, ("under", P_UNDER, P_UNDER))),
        ]:
            given = gives(row, goal)
            self.assertIs(derivation_of(row, goal) is not None, given)
            bar = bar_of(row, goal)
            self.assertIs(bar is None, given)
            if bar is not None:
                self.assertTrue(is_bar(row, goal, bar))

    def test_goals_that_wait(self):
        for row, goal in greatest_asked(60):
            for place in range(5):
                waiting = waits_for(row[:place], goal, row[place + 1:])
                self.assertIs(gives([row[place]], waiting), gives(row, goal))

    def test_great_bars(self):
        bar = []
        for row, goal in greatest_asked(200):
            if len(bar) < 2000:
                bar += bar_of(row, goal) or []
        self.assertGreater(len(bar), 1990)
        row, goal = bar[0]
        self.assertIs(is_bar(row, goal, bar), True)
        self.assertIs(is_bar(row, goal, bar + [(["p"], "p")]), False)
        unlike = [(row + ["p"], goal) for row, goal in bar]
        self.assertIs(is_bar(unlike[0][0], unlike[0][1], unlike), True)

    def test_long_rows(self):
        kind = some_kind(random.Random(3), 30, "pqr", ["over", "under", "then"])
        row = [("over", kind, "p"), ("under", "p", kind)] * 10
        self.assertEqual(len(steps_back(row, ("then", "p", kind))), 19 + 100 + 100)
        self.assertIs(gives(row, "p"), slow_letters(row) == slow_letters(["p"]))
        self.assertEqual(signs_of(waits_for(row, kind, row)), 2 * sum(map(signs_of, row)) + 40 + 30)

    def test_greatest_kinds(self):
        self.assertEqual(len(all_kinds(["p", "q", "r"], 2)), 486)
        self.assertEqual(many_kinds(["p", "q", "r", "s"], 20), 4 ** 21 * 3 ** 20 * 6564120420)
        for sign in ["over", "under", "then"]:
            for signs in [14, 30, 300]:
                kind = deep_kind(sign, signs)
                self.assertEqual((signs_of(kind), plains_of(kind)), (signs, ["p"]))
                self.assertEqual(turned(turned(kind)), kind)
                self.assertEqual(signs_of(put_for(kind, {"p": ("then", "p", "p")})), 2 * signs + 1)

    def test_deep_derivations(self):
        row, made = ["n"], ("is", "n")
        for count in range(66):
            used = ("under used", 0, made, ("is", "s"))
            goal = told_by(used)[0][-1]
            made = ("over made", used)
        self.assertEqual((knots_of(made), told_by(made)[0]), (199, row))
        self.judge(made)
        self.assertEqual(signs_of(goal), 66 * 2 - 1)

    def test_cuts_upon_cuts(self):
        made = ("is", "n")
        for count in range(39):
            raised = ("over made", ("under used", 0, ("is", told_by(made)[1]), ("is", "s")))
            made = ("cut", 0, made, raised)
        self.assertEqual((knots_of(made), cuts_of(made)), (196, 39))
        self.judge(made)
        inward = ("is", "n")
        for count in range(99):
            inward = ("cut", 0, ("is", "n"), inward)
        self.judge(inward)
        self.assertEqual((cuts_of(inward), without_cuts(inward)), (99, ("is", "n")))

    def test_great_derivations(self):
        made = plain_out(("is", deep_kind("over", 140)))
        for _ in range(3):
            made = ("then made", made, turned_derivation(made))
        self.assertGreater(knots_of(made), 3000)
        self.judge(made)
        wide = STEP
        for _ in range(9):
            wide = ("then made", wide, wide)
        self.assertEqual(knots_of(wide), 2047)
        self.judge(wide)

    def test_readings(self):
        for row, goal in greatest_asked(300, (["over"], ["over", "under"], ["under"])):
            many = many_readings(row, goal)
            self.assertIs(many > 0, gives(row, goal))
            for place in range(5):
                self.assertEqual(many_readings([row[place]], waits_for(row[:place], goal, row[place + 1:])), many)
        deep = deep_kind("over", 300)
        self.assertEqual((head_of(deep), len(waits_of(deep)[0])), ("p", 300))
        self.assertEqual(many_readings([P_OVER] * 4 + ["p"], "p"), 1)
        before, after = P_OVER, P_UNDER
        self.assertEqual(many_readings([before, before, "p", after, after], "p"), 6)

    def test_between_every_stretch(self):
        given = 0
        for row, goal in greatest_asked(1500):
            if gives(row, goal):
                given += 1
                for first in range(5):
                    for last in range(first + 1, 6):
                        told = between(row, goal, first, last)
                        self.assertTrue(is_between(row, goal, first, last, told))
            else:
                self.assertIsNone(between(row, goal, 1, 4))
        self.assertGreater(given, 10)

    def test_between_with_goals_that_wait(self):
        for row, goal in greatest_asked(100):
            for place in range(5):
                waiting = waits_for(row[:place], goal, row[place + 1:])
                told = between([row[place]], waiting, 0, 1)
                self.assertIs(told is not None, gives(row, goal))
                self.assertIs(is_between([row[place]], waiting, 0, 1, told), told is not None)

    def test_great_letters(self):
        letters = [("n", 1), ("s", -1)] * 20
        self.assertTrue(are_letters(letters))
        self.assertEqual(put_letters(letters, turned_back(letters)), [])
        self.assertTrue(are_round(letters, letters[1:] + letters[:1]))
        self.assertFalse(are_round(letters, [("s", -1)] * 20 + [("n", 1)] * 20))
        around = letters[:19]
        self.assertTrue(are_round(put_letters(put_letters(turned_back(around), [("q", 1)] * 2), around), [("q", 1)] * 2))
        self.assertEqual(letters_of(plain_form(letters, "n")), letters)
        kind = some_kind(random.Random(3), 14, "npq", ["over", "under", "then"])
        self.assertEqual(letters_of_row([kind] * 20), slow_letters([kind] * 20))
        self.assertEqual(letters_of(deep_kind("over", 300)), [("p", -1)] * 299)

    def test_great_turns(self):
        picked = random.Random(1)
        turns = {word: picked.sample(range(30), 30) for word in "npqs"}
        kind = some_kind(picked, 30, "npq", ["over", "under", "then"])
        self.assertEqual(turn_of(turns, ("over", kind, kind)), list(range(30)))
        for _ in range(200):
            one, other = [some_kind(picked, 14, "npq", ["over", "under", "then"]) for _ in range(2)]
            turns = parting_turns(one, other)
            self.assertIs(turns is None, letters_of(one) == letters_of(other))
            self.assertIs(are_parting_turns(one, other, turns), turns is not None)
        one, other = deep_kind("then", 14), deep_kind("under", 14)
        turns = parting_turns(one, other)
        self.assertTrue(are_parting_turns(one, other, turns))

    def test_links_of_great_derivations(self):
        made = ("is", "n")
        for count in range(66):
            made = ("over made", ("under used", 0, made, ("is", "s")))
        row, goal = told_by(made)
        self.assertEqual(len(links_of(made)), 67)
        self.assertEqual(knots_ahead(row, goal), knots_of(made))
        wide = STEP
        for _ in range(9):
            wide = ("then made", wide, wide)
        self.assertEqual(len(links_of(wide)), 1024)
        deep = plain_out(("is", deep_kind("over", 300)))
        self.assertEqual(links_of(deep), [(spot, 601 - spot) for spot in range(301)])
        self.assertEqual(links_of(deep), links_of(("is", deep_kind("over", 300))))

    def test_small_worlds(self):
        picked = random.Random(7)
        for _ in range(12):
            row = [some_kind(picked, signs, "npq", ["over", "under", "then"]) for signs in [3, 2, 2, 3, 2]]
            kind = some_kind(picked, 4, "npq", ["over", "under", "then"])
            world = parting_world(row, kind, 2)
            self.assertIs(is_parting_world(row, kind, world), world is not None)
        # Where none parts, all of them are tried.
        row = [("over", "p", "q"), ("over", "q", "n"), ("over", "n", "p"), ("over", P_OVER, "q"), "q"]
        self.assertTrue(gives(row, P_OVER))
        self.assertIsNone(parting_world(row, P_OVER, 2))
        kind = ("over", ("under", ("then", "n", "p"), ("over", "q", "p")), ("under", "q", ("over", "n", "n")))
        row = [("over", kind, kind)] * 19 + [kind]
        self.assertEqual([signs_of(row[0]), plains_of(kind)], [13, ["n", "p", "q"]])
        self.assertIsNone(parting_world(row, kind, 2))

    def test_great_rows_in_worlds(self):
        things = ["a", "b", "c"]
        world = World({(x, y): min(x, y) for x in things for y in things}, {"n": ["a", "b"], "p": things, "q": []})
        kind = some_kind(random.Random(5), 30, "np", ["over", "under", "then"])
        row = [some_kind(random.Random(seed), 14, "np", ["over", "under", "then"]) for seed in range(20)]
        self.assertEqual(lot_of(world, ("then", kind, "q")), [])
        self.assertEqual(sum(many_ways(world, ["p"] * 20, thing) for thing in things), 3 ** 20)
        self.assertEqual(escaping(world, row, kind) == [], holds(world, row, kind))
        self.assertEqual(lot_of_row(turned_world(world), row), lot_of_row(world, row))

    def test_great_choices_of_rows(self):
        kinds = all_kinds(["p"], 0) + all_kinds(["p"], 1) + all_kinds(["p"], 2)[:16]
        self.assertEqual(len(kinds), 20)
        for goal, many in [("p", 150), (P_THEN, 150), (deep_kind("over", 4), 5), (deep_kind("then", 4), 150)]:
            rows = rows_giving(kinds, goal, 3)
            self.assertGreater(len(rows), many)
            self.assertTrue(all(gives(row, goal) for row in rows[::5]))
        great = random.Random(1).sample(all_kinds(["p"], 4), 20)
        rows = rows_giving(great, deep_kind("over", 4), 3)
        self.assertTrue(all(gives(row, deep_kind("over", 4)) for row in rows))

    def judge(self, made):
        """All that is asked of a derivation, without the search."""
        row, goal = told_by(made)
        self.assertTrue(is_derivation(made))
        self.assertTrue(is_derivation_of(row, goal, plain_out(made)))
        self.assertTrue(is_derivation_of(row, goal, without_cuts(made)))
        self.assertEqual(turned_derivation(turned_derivation(made)), made)
        sent = {word: ("over", word, word) for kind in row + [goal] for word in plains_of(kind)}
        goal_sent = {word: sent[word] for word in plains_of(goal)}
        self.assertEqual(told_by(with_put(made, sent))[1], put_for(goal, goal_sent))


if __name__ == "__main__":
    unittest.main()
