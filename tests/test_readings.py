"""Points [22] and [23]: heads, what waits for what, how many readings."""

import random
import unittest

from phrasejoins.errors import InvalidKind, InvalidRow, Refused
from phrasejoins.forms import all_kinds, is_free
from phrasejoins.giving import gives, waits_for
from phrasejoins.letters import may_give
from phrasejoins.links import links_of
from phrasejoins.readings import head_of, many_readings, waits_of
from tests.samples import GOES, PAIR, RAISED, SEES, all_derivations, slow_readings

BEFORE = ("over", "s", "s")
AFTER = ("under", "s", "s")


def free_kinds(words, signs):
    return [kind for kind in all_kinds(words, signs) if is_free(kind)]


def asked_small(many, most):
    """Rows with goals free of then that have their letters."""
    picked = random.Random(17)
    kinds = [free_kinds(["p", "q"], signs) for signs in range(3)]
    asked = []
    while len(asked) < many:
        words = picked.choice([0, 0, 1, 1, 2])
        row = [picked.choice(kinds[picked.choice([0, 1, 1, 2])]) for _ in range(picked.randint(1, most))]
        goal = picked.choice(kinds[words])
        if may_give(row, goal):
            asked.append((row, goal))
    return asked


class Heads(unittest.TestCase):
    def test_plain(self):
        self.assertEqual(head_of("n"), "n")
        self.assertEqual(waits_of("n"), ([], []))

    def test_one_side(self):
        kind = ("over", ("over", ("over", "s", "a"), "b"), GOES)
        self.assertEqual(head_of(kind), "s")
        self.assertEqual(waits_of(kind), ([GOES, "b", "a"], []))
        kind = ("under", GOES, ("under", "b", ("under", "a", "s")))
        self.assertEqual(head_of(kind), "s")
        self.assertEqual(waits_of(kind), ([], [GOES, "b", "a"]))

    def test_both_sides(self):
        kind = ("over", ("under", "a", ("over", ("under", "b", "s"), "c")), "d")
        self.assertEqual(head_of(kind), "s")
        self.assertEqual(waits_of(kind), (["d", "c"], ["a", "b"]))
        kind = ("under", "a", ("over", ("over", ("under", "b", "s"), RAISED), SEES))
        self.assertEqual(head_of(kind), "s")
        self.assertEqual(waits_of(kind), ([SEES, RAISED], ["a", "b"]))

    def test_kinds_of_values(self):
        told = waits_of(SEES)
        self.assertEqual([type(told), type(told[0]), type(told[1])], [tuple, list, list])

    def test_undone_by_waits_for(self):
        for signs in range(4):
            for kind in free_kinds(["p"], signs):
                behind, ahead = waits_of(kind)
                wait = waits_for(ahead[::-1], head_of(kind), behind)
                self.assertEqual((head_of(wait), waits_of(wait)), (head_of(kind), (behind, ahead)))

    def test_refused(self):
        for kind in [PAIR, ("over", "s", PAIR), ("under", ("over", PAIR, "n"), "s")]:
            for function in [head_of, waits_of]:
                with self.assertRaises(Refused) as caught:
                    function(kind)
                self.assertIs(caught.exception.value, kind)


class Readings(unittest.TestCase):
    def test_known(self):
        for row, goal, many in [
            (["n"], "n", 1), (["n"], "s", 0), (["n", "n"], "n", 0), (["n", GOES], "s", 1), ([GOES, "n"], "s", 0),
            ([GOES], "s", 0), (["n"], RAISED, 1), ([GOES], GOES, 1), ([RAISED], "n", 0), (["n", SEES, "n"], "s", 1),
            ([SEES], ("under", "n", ("over", "s", "n")), 1), ([RAISED, GOES], "s", 1),
            (["s", AFTER, AFTER], "s", 1), ([BEFORE, "s", AFTER], "s", 2), ([BEFORE, "s", AFTER, AFTER], "s", 3),
            ([BEFORE, BEFORE, "s", AFTER, AFTER], "s", 6), ([BEFORE, BEFORE], BEFORE, 1), ([BEFORE], BEFORE, 1),
            ([BEFORE, AFTER], ("over", "s", "s"), 0), ([BEFORE, ("over", AFTER, "s")], ("over", AFTER, "s"), 0),
            ([AFTER, ("over", AFTER, "s")], ("over", AFTER, "s"), 1), ([BEFORE, "s"], ("over", "s", AFTER), 2),
            (["s", AFTER], ("under", BEFORE, "s"), 2), (["s"], ("under", BEFORE, ("over", "s", AFTER)), 2),
            ([("over", BEFORE, "s"), "s", "s"], "s", 1), ([("over", BEFORE, "s"), BEFORE, "s", "s"], "s", 1),
            ([("over", BEFORE, "s"), "s", AFTER, "s"], "s", 1), ([("over", "s", BEFORE), BEFORE], "s", 1),
            (["s", ("under", "s", BEFORE), "s", ("under", "s", BEFORE), "s"], "s", 2),
        ]:
            self.assertEqual(many_readings(row, goal), many, (row, goal))

    def test_as_written_out(self):
        seen = []
        for row, goal in asked_small(4000, 5):
            many = many_readings(row, goal)
            self.assertEqual(many, slow_readings(tuple(row), goal), (row, goal))
            self.assertIs(many > 0, gives(row, goal))
            seen.append(many)
        self.assertTrue(all(seen.count(many) > 10 for many in [0, 1, 2]), seen)
        self.assertGreater(max(seen), 2)

    def test_as_many_as_ways_to_link(self):
        for row, goal in asked_small(500, 3):
            links = {tuple(links_of(made)) for made in all_derivations(row, goal)}
            self.assertEqual(many_readings(row, goal), len(links), (row, goal))

    def test_refused_last(self):
        pairs, then = ["n", PAIR], ("over", PAIR, "s")
        for row, goal, made, value in [
            (pairs, "s", Refused, pairs), (pairs, PAIR, Refused, pairs), (["n"], then, Refused, then),
            (pairs, 1, InvalidKind, 1), (pairs, None, InvalidKind, None), (0, PAIR, InvalidRow, 0),
            (["n", 2], PAIR, InvalidRow, ["n", 2]),
        ]:
            with self.assertRaises(made) as caught:
                many_readings(row, goal)
            self.assertEqual(caught.exception.value, value)
            if made is Refused:
                self.assertIs(caught.exception.value, value)


if __name__ == "__main__":
    unittest.main()
