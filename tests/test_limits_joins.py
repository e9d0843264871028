"""Point [3] for books, chains, bounds and joins: calls at the limits end soon, what they return keeps its bounds."""

import itertools
import random
import time
import unittest

from phrasejoins.books import Book, can_stand, choices, is_let, many_sentences, parting_goal, sentences_of
from phrasejoins.bounds import (
    above, below, is_above, is_above_paper, is_below, is_below_paper, least_above, lowered, raised,
)
from phrasejoins.chains import (
    cancelled_ahead, cancelled_behind, chain_of, form_chain, is_chain, is_shortened, kinds_along, shortened, through_first,
    through_second,
)
from phrasejoins.derivations import knots_of, plain_out, told_by
from phrasejoins.forms import all_kinds, is_free, signs_of
from phrasejoins.giving import gives, without_cuts
from phrasejoins.joins import (
    can_join_at, is_joined, is_joined_at, is_why_not_joined, join_classes, joined, joined_at, joining, place_type,
    why_not_joined,
)
from phrasejoins.letters import letters_of, plain_form
from tests.samples import slow_letters
from tests.test_limits import greatest_asked, some_kind

SECONDS = 20
SMALL = [kind for number in range(3) for kind in all_kinds(["p", "q", "r"], number)]
UNITS = [(sign, word, word) for word in "pqr" for sign in ["over", "under"]]


def depth_of(value):
    depth, row = 0, [value]
    while row:
        row = [part for node in row if isinstance(node, (list, tuple)) for part in node]
        depth += 1
    return depth


def alike_pairs():
    """All pairs of alike types of at most two signs, but those that only call the plain types otherwise."""
    groups = {}
    for kind in SMALL:
        groups.setdefault(tuple(slow_letters([kind])), []).append(kind)
    for group in groups.values():
        for one, other in itertools.product(group, group):
            if first_uses(one, other) == "pqr"[:len(first_uses(one, other))]:
                yield one, other


def first_uses(one, other):
    used = ""
    waiting = [other, one]
    while waiting:
        kind = waiting.pop()
        if not isinstance(kind, str):
            waiting += [kind[2], kind[1]]
        elif kind not in used:
            used += kind
    return used


class Limits(unittest.TestCase):
    def setUp(self):
        self.began = time.monotonic()

    def tearDown(self):
        self.assertLess(time.monotonic() - self.began, SECONDS)

    def assert_bounded(self, value):
        """Bounds of a list or tuple of types, derivations and steps."""
        self.assertLessEqual(depth_of(value), 300)
        for part in value:
            if isinstance(part, tuple) and part[0] in ("on", "back"):
                part = part[1]
            if isinstance(part, str) or part[0] in ("over", "under", "then"):
                self.assertLessEqual(signs_of(part), 1500)
            else:
                self.assertLessEqual(knots_of(part), 5000)
                row, goal = told_by(part)
                self.assertLessEqual(max(signs_of(kind) for kind in row + [goal]), 1500)

    def test_chains(self):
        pairs = list(alike_pairs())
        self.assertGreater(len(pairs), 1000)
        for one, other in pairs[::2]:
            chain = chain_of(one, other)
            self.assertIs(is_chain(one, other, chain), True)
            self.assertLessEqual(len(chain), 100)
            self.assert_bounded(chain)
            if chain:
                self.assertIs(is_shortened(chain, chain), True)

    def test_chains_to_forms(self):
        for kind in SMALL:
            chain = form_chain(kind, "q")
            self.assertIs(is_chain(kind, plain_form(letters_of(kind), "q"), chain), True)
            self.assertLessEqual(len(chain), 100)
            self.assert_bounded(chain)

    def test_above_and_below_two(self):
        for one, other in list(alike_pairs())[::3]:
            high, low = above([one, other]), below([one, other])
            self.assertIs(is_above_paper([one, other], high), True)
            self.assertIs(is_below_paper([one, other], low), True)
            self.assert_bounded(high)
            self.assert_bounded(low)

    def test_above_and_below_many(self):
        picked = random.Random(2)
        for _ in range(12):
            kinds = picked.sample(UNITS, 6) + picked.choices(UNITS, k=picked.randrange(14))
            high, low = above(kinds), below(kinds)
            self.assertIs(is_above_paper(kinds, high), True)
            self.assertIs(is_below_paper(kinds, low), True)
            self.assert_bounded(high)
            self.assert_bounded(low)
            self.assertIs(is_above_paper(kinds[1:], high), False)

    def test_judged_bounds(self):
        picked = random.Random(5)
        for _ in range(300):
            kinds = [some_kind(picked, 14, "p", ["over", "under", "then"]) for _ in range(2)]
            value = some_kind(picked, 8, "p", ["over", "under", "then"])
            self.assertIs(is_above(kinds, value), all(gives([kind], value) for kind in kinds))
            self.assertIs(is_below(kinds, value), all(gives([value], kind) for kind in kinds))

    def test_least_above(self):
        for one, other in list(alike_pairs())[::40]:
            least = least_above([one, other], ["p"], 2)
            self.assertTrue(least is None or is_above([one, other], least))
            least = least_above([one, other], ["p", "q", "r"], 1)
            self.assertTrue(least is None or is_above([one, other], least))

    def test_raised_and_lowered_of_great_ones(self):
        kind = some_kind(random.Random(4), 30, "pqr", ["over", "under", "then"])
        made = plain_out(("is", kind))
        while knots_of(made) < 150:
            made = ("cut", 0, made, plain_out(("is", kind)))
        self.assert_bounded(raised(made, made))
        self.assert_bounded(lowered(made, made))
        low = ("over", "p", "p")
        self.assertEqual(told_by(lowered(("is", low), ("is", low))[1])[1], low)

    def test_long_chains(self):
        kind = some_kind(random.Random(8), 30, "pqr", ["over", "under", "then"])
        word = "q"
        made = ("over made", ("under used", 0, ("is", kind), ("is", word)))
        steps = [("on", made), ("back", made)] * 50
        for longer in [steps, [("on", plain_out(("is", kind)))] * 100, steps[:99]]:
            self.assertIs(is_shortened(longer, shortened(longer)), True)
            for chain in [through_first(longer, "under", kind), through_second(longer, "over", kind)]:
                self.assertEqual(len(kinds_along(chain)), len(longer) + 1)
        for sign in ["over", "under", "then"]:
            self.assertTrue(kinds_along(through_first(steps, sign, kind))[0], (sign, kind, kind))

    def test_many_steps_of_one_way(self):
        chain = []
        kind = "p"
        while signs_of(kind) < 28:
            made = ("over made", ("then made", ("is", kind), ("is", "p")))
            while knots_of(made) < 190:
                made = ("cut", 0, ("is", kind), ("cut", 0, ("is", kind), made))
            chain.append(("on", made))
            kind = told_by(made)[1]
        self.assertGreater(sum(knots_of(made) for way, made in chain), 2500)
        short = shortened(chain)
        self.assertEqual(len(short), 1)
        self.assertIs(is_shortened(chain, short), True)
        self.assert_bounded(short)
        back = [("back", made) for way, made in chain[::-1]]
        self.assertEqual(kinds_along(shortened(back)), kinds_along(short)[::-1])
        self.assertEqual(shortened(chain + back), [])

    def test_a_hundred_steps_of_one_way(self):
        kinds = [("over", ("over", "p", word), word) for word in ["p", "q", "r"]]
        chain = []
        for number in range(100):
            made = plain_out(("is", ("then", ("then", kinds[0], kinds[1]), kinds[2])))
            while knots_of(made) < 170:
                made = ("cut", 0, made, made)
            chain.append(("on", made))
        self.assertEqual(shortened(chain), [])

    def test_cancelled_chains(self):
        for one, other in list(alike_pairs())[::25]:
            chain = chain_of(one, other)
            if chain:
                self.assertIs(is_chain(one, other, cancelled_behind(through_first(chain, "then", "q"))), True)
                self.assertIs(is_chain(one, other, cancelled_ahead(through_second(chain, "then", "q"))), True)

    def test_joined(self):
        rows = [[kind] for kind in SMALL] + [
            [one, other] for one in SMALL[:30] for other in SMALL[:30] if signs_of(one) + signs_of(other) < 2] + [
            list(row) for row in itertools.product("pqr", repeat=3)]
        picked = random.Random(6)
        alike = 0
        while alike < 400:
            one, other = picked.choice(rows), picked.choice(rows)
            value = joined(one, other)
            self.assertIs(is_joined(one, other, value), value is not None)
            self.assertIs(is_why_not_joined(one, other, why_not_joined(one, other)), value is None)
            if value is not None:
                alike += 1
                self.assert_bounded(value)
        self.assertEqual(sum(map(len, join_classes(rows[:6]))), 6)

    def test_joined_at_every_stretch(self):
        asked = greatest_asked(24)
        others = greatest_asked(12)
        told = {True: 0, False: 0}
        for row, goal in asked:
            for first in range(5):
                for last in range(first + 1, 6):
                    letters = slow_letters([place_type(row, first, last, goal)])
                    for other in [other for other, _ in others if slow_letters(other) == letters] + [row]:
                        value = joined_at(row, first, last, other, goal)
                        can = can_join_at(row, first, last, other, goal)
                        told[can] += 1
                        self.assertIs(value is not None, can)
                        self.assertIs(is_joined_at(row, first, last, other, goal, value), can)
                        if can:
                            self.assert_bounded(value)
        self.assertGreater(told[True], 5)
        self.assertGreater(told[False], 400)

    def test_joining(self):
        given = [(row, goal) for row, goal in greatest_asked(1500) if gives(row, goal)]
        self.assertGreater(len(given), 10)
        for row, goal in given:
            self.assertEqual(told_by(joining(row, [goal], goal))[0][:5], row)
            self.assert_bounded([joining(row, row, goal), joining([goal], row, goal)])
            self.assert_bounded([without_cuts(joining(row, row, goal))])

    def test_great_books(self):
        free = [kind for kind in all_kinds(["p"], 3) if is_free(kind)]
        still = [kind for kind in free if slow_letters([kind]) == []]
        picked = random.Random(3)
        some = 0
        for kinds in [free, still, still, still]:
            words = {word: picked.sample(kinds, 2) for word in ["ab", "b", "c", "zzzzzzzz"]}
            book = Book(words, picked.choice(still))
            sentences = sentences_of(book, 4)
            self.assertEqual(len(sentences), many_sentences(book, 4))
            some += len(sentences)
            for sentence in sentences:
                self.assertIs(is_let(book, sentence), True)
                self.assertTrue(all(gives(row, book.goal()) for row in choices(book, sentence)))
            for word, other in itertools.product(words, words):
                self.assertIs(can_stand(book, word, other), parting_goal(book, word, other) is None)
        self.assertGreater(some, 20)


if __name__ == "__main__":
    unittest.main()
