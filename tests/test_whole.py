"""What the document promises over the whole program: its parts tell the same, in whatever order they are asked."""

import itertools
import random
import unittest

from phrasejoins.books import Book, choices, is_let, sentences_of
from phrasejoins.bounds import above, below, is_above, is_above_paper, is_below_paper
from phrasejoins.chains import are_alike, chain_of, is_chain, kinds_along
from phrasejoins.derivations import is_derivation_of, told_by, turned_derivation
from phrasejoins.desk import Desk
from phrasejoins.forms import all_kinds, is_free, is_kind, turned
from phrasejoins.giving import bar_of, derivation_of, gives, is_bar, steps_back, waits_for, without_cuts
from phrasejoins.joins import (
    and_type, can_join, can_join_at, is_joined, join_classes, joined, joined_at, joining, place_type, why_not_joined,
)
from phrasejoins.letters import letters_of, letters_of_row, may_give, parting_turns, turn_of
from phrasejoins.links import between, knots_ahead, links_of
from phrasejoins.papers import kind_text, kinds_text, read_kind, read_kinds, read_row, row_text
from phrasejoins.readings import many_readings
from phrasejoins.scripts import end_of, play, read_script, script_text
from phrasejoins.worlds import holds, is_parting_world, parting_world, rows_giving
from tests.samples import BOOK, GOES, RAISED, SEES
from tests.test_arguments import FUNCTIONS, emptied, rights, shown

BACK = ("over", "p", ("over", "p", "p"))
KINDS = [kind for number in range(3) for kind in all_kinds(["p", "q"], number)]


def some_asked(many):
    """Rows and goals, of which some are given, others have the letters alone, and others not even these."""
    picked = random.Random(21)
    asked = []
    while len(asked) < many:
        row = picked.choices(KINDS, k=picked.randrange(1, 4))
        goals = [kind for kind in KINDS if letters_of(kind) == letters_of_row(row)] or KINDS
        asked.append((row, picked.choice(goals if picked.random() < 0.9 else KINDS)))
    return asked


class Whole(unittest.TestCase):
    def test_what_a_row_gives(self):
        given = 0
        for row, goal in some_asked(600):
            told = gives(row, goal)
            given += told
            derivation, bar = derivation_of(row, goal), bar_of(row, goal)
            self.assertIs(derivation is not None, told)
            self.assertIs(bar is None, told)
            self.assertTrue(told or is_bar(row, goal, bar))
            self.assertTrue(not told or is_derivation_of(row, goal, derivation))
            self.assertTrue(not told or may_give(row, goal))
            self.assertIs(between(row, goal, 0, 1) is not None, told)
            self.assertIs(gives([turned(kind) for kind in row[::-1]], turned(goal)), told)
            self.assertIs(gives(row[:1], waits_for([], goal, row[1:])), told)
            ways = [[gives(*ahead) for ahead in way] for way in steps_back(row, goal)]
            self.assertIs(row == [goal] or any(all(way) for way in ways), told)
            desk = Desk(goal)
            for place, kind in enumerate(row):
                desk.put(place, kind)
            self.assertIs(desk.gives(), told)
            self.assertIs(desk.can_give(), may_give(row, goal))
            self.assertEqual(desk.letters(), letters_of_row(row))
            self.assertEqual(end_of(goal, [("put", place, kind) for place, kind in enumerate(row)]), (row, told))
            if all(map(is_free, row + [goal])):
                self.assertIs(many_readings(row, goal) > 0, told)
                words = {word: [kind] for word, kind in zip("abc", row)}
                self.assertIs(is_let(Book(words, goal), sorted(words)), told)
        self.assertGreater(given, 60)

    def test_what_a_row_gives_holds_in_worlds(self):
        for row, goal in some_asked(60):
            world = parting_world(row, goal, 2)
            if gives(row, goal):
                self.assertIsNone(world)
            elif world is not None:
                self.assertTrue(is_parting_world(row, goal, world))
                self.assertFalse(holds(world, row, goal))

    def test_alike(self):
        """By letters, chains, turns, above and below, and joins."""
        picked = random.Random(22)
        alike = 0
        for _ in range(300):
            one = picked.choice(KINDS)
            fellows = [kind for kind in KINDS if letters_of(kind) == letters_of(one)]
            other = picked.choice(fellows if picked.random() < 0.4 else KINDS)
            told = letters_of(one) == letters_of(other)
            alike += told
            self.assertIs(are_alike(one, other), told)
            chain = chain_of(one, other)
            self.assertIs(is_chain(one, other, chain), told)
            turns = parting_turns(one, other)
            self.assertIs(turns is None, told)
            self.assertTrue(told or turn_of(turns, one) != turn_of(turns, other))
            high, low, value = above([one, other]), below([one, other]), joined([one], [other])
            self.assertIs(is_above_paper([one, other], high), told)
            self.assertIs(is_below_paper([one, other], low), told)
            self.assertIs(is_joined([one], [other], value), told)
            self.assertIs(can_join([one], [other]), told)
            self.assertIs(why_not_joined([one], [other]) is None, told)
            self.assertEqual(join_classes([[one], [other]]), [[0, 1]] if told else [[0], [1]])
        self.assertGreater(alike, 100)

    def test_what_is_above_is_given(self):
        for one, other in [("p", BACK), (("over", "p", "p"), ("under", "q", "q")), ("n", RAISED)]:
            kind, first, second = above([one, other])
            for row, made in [([one], first), ([other], second)]:
                made = without_cuts(made)
                self.assertEqual(told_by(made), (row, kind))
                self.assertTrue(is_derivation_of([turned(row[0])], turned(kind), turned_derivation(made)))
                self.assertTrue(len(links_of(made)) > 0)
                self.assertIsNotNone(knots_ahead(row, kind))
            self.assertTrue(is_joined([one], [other], (kind, first, second)))
            for place, each in enumerate(kinds_along(chain_of(one, other))):
                self.assertEqual(letters_of(each), letters_of(one))

    def test_joined_phrases(self):
        row = ["n", SEES, "n"]
        for first, last in itertools.combinations(range(4), 2):
            for other in [["n"], [RAISED], [GOES], [SEES, "n"], ["n", SEES], row]:
                value = joined_at(row, first, last, other, "s")
                self.assertIs(value is not None, can_join_at(row, first, last, other, "s"))
                if value is not None:
                    self.assertTrue(gives(row[:first] + row[first:last] + [and_type(value[0])] + other + row[last:], "s"))
                    joins = joining(row[first:last], other, value[0])
                    whole = ("cut", first, joins, value[3])
                    self.assertEqual(told_by(without_cuts(whole))[1], "s")
                    self.assertTrue(is_above([place_type(row, first, last, "s")], value[0]))

    def test_sentences_are_rows_that_give(self):
        kinds = [kind for many in BOOK.words().values() for kind in many]
        kinds = [kind for place, kind in enumerate(kinds) if kind not in kinds[:place]]
        rows = [row for sentence in sentences_of(BOOK, 3) for row in choices(BOOK, sentence)]
        for row in rows_giving(kinds, "s", 3):
            self.assertIs(len(row) == 3, row in rows)

    def test_writers_and_readers(self):
        for kind in KINDS:
            self.assertEqual(read_kind(kind_text(kind)), kind)
        self.assertEqual([read_row(row_text(KINDS)), read_kinds(kinds_text(KINDS))], [KINDS, KINDS])
        script = [("put", 0, kind) for kind in KINDS] + [("try", [("make", 0, kind) for kind in KINDS])]
        self.assertEqual(read_script(script_text(script)), script)
        desk = Desk("s")
        for place in range(3):
            desk.put(place, SEES)
        again = Desk("s")
        play(again, read_script(script_text(desk.record())))
        self.assertEqual([again.row(), again.record()], [desk.row(), desk.record()])

    def test_asked_again_in_another_order(self):
        """Each call is told the same again, behind others, and behind changes of what was returned."""
        first = {}
        for place, (function, parameters) in enumerate(FUNCTIONS):
            first[place] = shown(function(*rights(parameters)))
        order = list(range(len(FUNCTIONS))) * 2
        random.Random(1).shuffle(order)
        for place in order:
            function, parameters = FUNCTIONS[place]
            result = function(*rights(parameters))
            self.assertEqual(shown(result), first[place], function)
            emptied(result)

    def test_what_is_told_of_kinds_is_of_kinds(self):
        for row, goal in some_asked(40):
            for kind in [place_type(row, 0, 1, goal), and_type(goal), turned(goal)]:
                self.assertTrue(is_kind(kind))


if __name__ == "__main__":
    unittest.main()
