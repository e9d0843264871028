"""phrasejoins.chains: points [39] to [44]."""

import itertools
import unittest

from phrasejoins.bounds import raised
from phrasejoins.chains import (
    are_alike, cancelled_ahead, cancelled_behind, chain_of, form_chain, is_chain, is_shortened, kinds_along, shortened,
    through_first, through_second,
)
from phrasejoins.derivations import told_by
from phrasejoins.errors import InvalidChain, InvalidWord, Refused
from phrasejoins.forms import all_kinds
from phrasejoins.letters import letters_of, parting_turns, plain_form
from tests.samples import GOES, IS_N, IS_S, MADE, PAIR, RAISED, STEP, UNPACKED, slow_letters

BACK = ("over", "p", ("over", "p", "p"))
ON = ("on", MADE)
GONE_BACK = ("back", MADE)
# From n on to n raised, and from there on to n raised twice.
TWICE = ("over made", ("under used", 0, ("is", RAISED), IS_S))
SMALL = [kind for number in range(3) for kind in all_kinds(["p", "q"], number)]


def slow_ends(step):
    row, goal = told_by(step[1])
    assert len(row) == 1 and isinstance(step, tuple) and step[0] in ("on", "back")
    return (row[0], goal) if step[0] == "on" else (goal, row[0])


def slow_kinds(chain):
    """The types that a chain goes through, each step's begin judged to be the end of the one ahead."""
    kinds = [slow_ends(chain[0])[0]]
    for step in chain:
        begin, end = slow_ends(step)
        assert begin == kinds[-1], chain
        kinds.append(end)
    return kinds


def slow_fit(one, other, chain):
    return one == other if chain == [] else slow_kinds(chain)[::len(chain)] == [one, other]


def is_short(chain, value):
    """Whether a list of steps is a shortened chain, written out as the document tells it."""
    kinds = slow_kinds(chain)
    if not slow_fit(kinds[0], kinds[-1], value) or len(value) > len(chain):
        return False
    through = slow_kinds(value) if value else []
    repeated = any(one == other for one, other in itertools.combinations(through, 2))
    return not repeated and not any(step[0] == later[0] for step, later in zip(value, value[1:]))


class Chains(unittest.TestCase):
    def test_is_chain(self):
        for one, other, chain in [
            ("n", RAISED, [ON]), (RAISED, "n", [GONE_BACK]), ("n", "n", []), (GOES, GOES, []), ("n", "n", [("on", IS_N)]),
            ("n", "n", [ON, GONE_BACK]), ("n", RAISED, [ON, GONE_BACK, ON]), ("n", told_by(TWICE)[1], [ON, ("on", TWICE)]),
            (told_by(TWICE)[1], "n", [("back", TWICE), GONE_BACK]), (PAIR, "s", [("on", UNPACKED)]),
            ("n", "n", [("on", IS_N), ("back", IS_N), ("on", IS_N)]),
        ]:
            self.assertIs(is_chain(one, other, chain), True, chain)
            self.assertTrue(slow_fit(one, other, chain))

    def test_is_no_chain(self):
        for one, other, chain in [
            ("n", RAISED, []), ("n", "s", []), ("n", RAISED, [GONE_BACK]), (RAISED, "n", [ON]), ("n", "n", [ON]),
            ("n", RAISED, [ON, ON]), ("n", RAISED, [ON, GONE_BACK]), ("s", "s", [ON, GONE_BACK]), (PAIR, "s", [("on", STEP)]),
            ("n", "s", [("on", STEP)]), (GOES, "s", [("on", STEP)]), ("n", told_by(TWICE)[1], [("on", TWICE), ON]),
            ("n", RAISED, (ON,)), ("n", RAISED, [list(ON)]), ("n", RAISED, [("on", list(MADE))]), ("n", "n", None),
            ("n", "n", ()), ("n", "n", [[]]), ("n", RAISED, [("On", MADE)]), ("n", RAISED, [ON + (None,)]),
        ]:
            self.assertIs(is_chain(one, other, chain), False, chain)

    def test_alike(self):
        self.assertIs(are_alike("p", BACK), True)
        self.assertIs(are_alike("p", "q"), False)
        self.assertIs(are_alike(("over", "p", "p"), ("under", "q", "q")), True)
        self.assertIs(are_alike(("over", "p", "q"), ("under", "q", "p")), False)
        for one, other in itertools.product(SMALL[::3], SMALL):
            alike = slow_letters([one]) == slow_letters([other])
            self.assertIs(are_alike(one, other), alike)
            self.assertIs(parting_turns(one, other) is None, alike)

    def test_chains_of_small_kinds(self):
        for one, other in itertools.product(SMALL[::5], SMALL[::2]):
            chain = chain_of(one, other)
            if slow_letters([one]) == slow_letters([other]):
                self.assertTrue(slow_fit(one, other, chain))
                self.assertIs(is_chain(one, other, chain), True)
                self.assertLessEqual(len(chain), 40)
            else:
                self.assertIsNone(chain)

    def test_chains_by_letters_alone(self):
        units = [(sign, word, word) for sign in ["over", "under"] for word in "pqr"]
        for one, other in itertools.product(units, units):
            self.assertTrue(slow_fit(one, other, chain_of(one, other)))
        for one, other in [
            ("p", BACK), ("p", ("under", ("under", "p", "p"), "p")), ("q", ("then", "q", ("over", "p", "p"))),
            (("over", "p", "p"), ("then", ("over", "p", "q"), ("over", "q", "p"))),
            (("over", ("over", "p", "q"), "r"), ("over", "p", ("then", "r", "q"))),
            (("over", "p", ("over", "q", "r")), ("then", ("over", "p", ("over", "q", "r")), ("under", "p", "p"))),
            (("then", "p", ("under", "p", "q")), "q"), (("under", "q", "q"), ("over", "p", "p")),
        ]:
            self.assertTrue(slow_fit(one, other, chain_of(one, other)))
            self.assertTrue(slow_fit(other, one, chain_of(other, one)))

    def test_a_chain_to_itself(self):
        for kind in ["n", GOES, BACK, PAIR]:
            self.assertIs(is_chain(kind, kind, chain_of(kind, kind)), True)

    def test_kinds_along(self):
        self.assertEqual(kinds_along([ON]), ["n", RAISED])
        self.assertEqual(kinds_along([GONE_BACK]), [RAISED, "n"])
        self.assertEqual(kinds_along([ON, GONE_BACK, ON]), ["n", RAISED, "n", RAISED])
        self.assertEqual(kinds_along([("on", IS_N)]), ["n", "n"])

    def test_through_both(self):
        for chain in [[ON], [GONE_BACK], [ON, ("on", TWICE), ("back", TWICE)], [ON, GONE_BACK], chain_of("p", BACK)]:
            along = slow_kinds(chain)
            for word, kind in itertools.product(["over", "under", "then"], ["q", GOES, PAIR, RAISED]):
                first, second = through_first(chain, word, kind), through_second(chain, word, kind)
                self.assertEqual(slow_kinds(first), [(word, each, kind) for each in along])
                self.assertEqual(slow_kinds(second), [(word, kind, each) for each in along])
                ways = [way for way, derivation in chain]
                turned = ["back" if way == "on" else "on" for way in ways]
                self.assertEqual([way for way, made in first], turned if word == "under" else ways)
                self.assertEqual([way for way, made in second], turned if word == "over" else ways)

    def test_cancelled(self):
        for chain in [[ON], [GONE_BACK], [ON, ("on", TWICE)], chain_of("p", BACK), [ON, GONE_BACK], [("on", IS_N)]]:
            along = slow_kinds(chain)
            for kind in ["q", PAIR, GOES]:
                behind = cancelled_behind(through_first(chain, "then", kind))
                self.assertTrue(slow_fit(along[0], along[-1], behind))
                ahead = cancelled_ahead(through_second(chain, "then", kind))
                self.assertTrue(slow_fit(along[0], along[-1], ahead))

    def test_cancelled_where_the_way_leads_elsewhere(self):
        unit = ("over", "p", "p")
        for one, other in itertools.permutations(["p", BACK, ("then", "p", ("over", "q", "q"))], 2):
            for kind in ["q", unit]:
                chain = chain_of(("then", one, kind), ("then", other, kind))
                self.assertTrue(slow_fit(one, other, cancelled_behind(chain)))
                chain = chain_of(("then", kind, one), ("then", kind, other))
                self.assertTrue(slow_fit(one, other, cancelled_ahead(chain)))

    def test_same_ends_cancelled(self):
        ring = [("on", ("is", PAIR))]
        self.assertTrue(slow_fit("n", "n", cancelled_behind(ring)))
        self.assertTrue(slow_fit(GOES, GOES, cancelled_ahead(ring)))

    def test_refused(self):
        behind = [("on", ("then used", 0, ("then made", MADE, IS_S)))]
        ahead = [("on", ("then used", 0, ("then made", IS_S, MADE)))]
        over = through_first([ON], "over", "s")
        under = through_first([ON], "under", "s")
        for function, chain in [
            (cancelled_behind, ahead), (cancelled_ahead, behind), (cancelled_behind, [ON]), (cancelled_ahead, [ON]),
            (cancelled_behind, [("on", UNPACKED)]), (cancelled_ahead, [("back", UNPACKED)]), (cancelled_behind, over),
            (cancelled_ahead, through_second([ON], "under", "s")), (cancelled_behind, under), (cancelled_behind, [
                ("on", ("then used", 0, ("then made", IS_N, ("over made", ("under used", 0, IS_N, IS_S)))))]),
        ]:
            with self.assertRaises(Refused) as caught:
                function(chain)
            self.assertIs(caught.exception.value, chain)

    def test_the_empty_chain(self):
        for function, more in [
            (kinds_along, []), (through_first, ["over", "n"]), (through_second, ["then", "n"]), (cancelled_behind, []),
            (cancelled_ahead, []), (shortened, []), (is_shortened, [[]]),
        ]:
            empty = []
            with self.assertRaises(InvalidChain) as caught:
                function(empty, *more)
            self.assertIs(caught.exception.value, empty)

    def test_wrong_words(self):
        for word in ["over ", "beside", ["over"], None, True]:
            for function in [through_first, through_second]:
                with self.assertRaises(InvalidWord) as caught:
                    function([ON], word, ["n"])
                self.assertIs(caught.exception.value, word)

    def test_shortened(self):
        ring = [ON, ("on", TWICE), ("back", TWICE), GONE_BACK]
        for chain, length in [
            ([ON], 1), (ring, 0), (ring[:1] + ring[1:3] + ring[:0], 1), ([ON, ("on", TWICE)], 1),
            ([("back", TWICE), GONE_BACK], 1), (ring + [ON], 1), (ring + ring, 0), ([("on", IS_N)], 0),
            ([("on", IS_N), ON, ("on", ("is", RAISED))], 1), ([ON, GONE_BACK, ON, ("on", TWICE)], 1),
            ([GONE_BACK, ON, ("on", TWICE)], 1), ([ON, ("on", TWICE), ("back", TWICE)], 1),
        ]:
            short = shortened(chain)
            self.assertTrue(is_short(chain, short))
            self.assertIs(is_shortened(chain, short), True)
            self.assertEqual(len(short), length)

    def test_shortened_rings_within(self):
        # Where a ring goes, two steps of one way may come to stand side by side.
        for one, other in [("p", BACK), (("over", "p", "p"), ("over", "q", "q"))]:
            chain = chain_of(one, other)
            back = [("back" if way == "on" else "on", made) for way, made in chain[::-1]]
            for longer in [chain + back, chain + back + chain, back + chain, chain[:1] + [
                ("back" if chain[0][0] == "on" else "on", chain[0][1])] + chain]:
                self.assertTrue(is_short(longer, shortened(longer)))

    def test_is_shortened(self):
        ring = [ON, ("on", TWICE), ("back", TWICE), GONE_BACK]
        for chain, value in [
            (ring, []), ([ON], [ON]), (ring, [ON]), (ring, ring), ([ON], [ON, ("on", ("is", RAISED))]), ([ON], []),
            ([ON], [GONE_BACK]), ([ON], [("on", MADE), ("back", MADE), ("on", MADE)]), (ring + [ON], [ON]),
            (ring + [ON], ring + [ON]), ([ON, ("on", TWICE)], [ON, ("on", TWICE)]), ([("on", IS_N)], [("on", IS_N)]),
            ([("on", IS_N)], []), ([ON, ("on", TWICE)], [("on", ("cut", 0, MADE, TWICE))]),
            ([("on", ("cut", 0, MADE, TWICE))], [ON, ("on", TWICE)]), ([("back", TWICE), GONE_BACK], []),
            ([ON, ("back", ("is", RAISED))], [ON, ("back", ("is", RAISED))]),
        ]:
            self.assertIs(is_shortened(chain, value), is_short(chain, value), (chain, value))
        for value in [None, (ON,), [list(ON)], {}, "", True, [None], (), ON]:
            self.assertIs(is_shortened([ON], value), False)
        for value in [None, (), {}, "", False]:
            self.assertIs(is_shortened(ring, value), False)

    def test_longer_ways_are_not_short(self):
        kind, mine, theirs = raised(IS_N, MADE)
        around = [("on", mine), ("back", theirs)]
        self.assertTrue(slow_fit("n", RAISED, around))
        self.assertIs(is_shortened([ON], around), False)
        self.assertIs(is_shortened(around, around), True)
        self.assertIs(is_shortened([("on", IS_N), ON], around), True)
        self.assertIs(is_shortened(around, [ON]), True)
        self.assertEqual(shortened(around), around)
        chain = chain_of("p", ("under", "q", ("then", "q", ("over", "p", ("over", "r", "r")))))
        self.assertGreater(len(chain), 2)
        self.assertIs(is_shortened(chain, chain), True)
        for place, (way, made) in enumerate(chain):
            twice = chain[:place] + [(way, ("is", slow_kinds(chain)[place]))] + chain[place:]
            self.assertIs(is_shortened(twice, twice), False)
            self.assertIs(is_shortened(twice, chain), True)

    def test_form_chains(self):
        for kind in SMALL + [RAISED, PAIR, BACK, ("then", ("over", "p", "q"), ("under", "r", "q"))]:
            for plain in ["p", "q"]:
                form = plain_form(letters_of(kind), plain)
                chain = form_chain(kind, plain)
                self.assertTrue(slow_fit(kind, form, chain))
                self.assertIs(is_chain(kind, form, chain), True)

    def test_form_chains_of_other_plain_kinds(self):
        for kind in ["n", GOES, ("over", "n", "n"), ("under", "n", "n"), ("over", "n", ("over", "n", "n")), RAISED]:
            for plain in ["n", "s", "other"]:
                form = plain_form(letters_of(kind), plain)
                self.assertTrue(slow_fit(kind, form, form_chain(kind, plain)))
                self.assertTrue(slow_fit(form, form, form_chain(form, plain)))


if __name__ == "__main__":
    unittest.main()
