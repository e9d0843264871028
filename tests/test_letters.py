"""Points [24] to [28]: letters, conjugate ones, plain forms, turns."""

import itertools
import random
import unittest

from phrasejoins.errors import InvalidKind, InvalidTurns
from phrasejoins.forms import all_kinds, plains_of, turned
from phrasejoins.giving import gives
from phrasejoins.letters import (
    are_letters, are_parting_turns, are_round, letters_of, letters_of_row, may_give, parting_turns, plain_form,
    put_letters, turn_of, turned_back,
)
from tests.samples import GOES, NO_LETTERS, NO_TURNS, PAIR, RAISED, SEES, slow_letters

ALL_LETTERS = [("n", 1), ("n", -1), ("s", 1), ("s", -1)]
NOTHING = ("over", "n", "n")


def cancelled(letters):
    """The letters with neighbours gone as long as there are such, one pair at a time."""
    for place in range(len(letters) - 1):
        (word, sign), (later, other) = letters[place:place + 2]
        if word == later and sign == -other:
            return cancelled(letters[:place] + letters[place + 2:])
    return letters


def letters_up_to(length):
    """All letters of n and s up to a length."""
    return [list(some) for many in range(length + 1) for some in itertools.product(ALL_LETTERS, repeat=many)
            if cancelled(list(some)) == list(some)]


def slow_turn(turns, kind):
    """The turn of a type, point by point, as the document tells it."""
    if isinstance(kind, str):
        return turns[kind]
    first, second = slow_turn(turns, kind[1]), slow_turn(turns, kind[2])
    points = range(len(first))
    if kind[0] == "over":
        return [second.index(first[point]) for point in points]
    if kind[0] == "under":
        return [second[first.index(point)] for point in points]
    return [second[first[point]] for point in points]


class Letters(unittest.TestCase):
    def test_are_letters(self):
        for letters in [[], [("n", 1)], [("n", -1)], [("n", 1), ("n", 1)], [("n", 1), ("s", -1), ("n", -1)],
                        [("abcdefgh", -1)] * 40, [("n", 1), ("s", 1), ("n", -1), ("s", -1)]]:
            self.assertIs(are_letters(letters), True)
        for wrong in NO_LETTERS:
            self.assertIs(are_letters(wrong), False)
        for some in itertools.product(ALL_LETTERS, repeat=4):
            self.assertIs(are_letters(list(some)), cancelled(list(some)) == list(some))

    def test_letters_of(self):
        for kind, letters in [
            ("n", [("n", 1)]), (GOES, [("n", -1), ("s", 1)]), (("over", "s", "n"), [("s", 1), ("n", -1)]),
            (PAIR, [("s", 1)]), (RAISED, [("n", 1)]), (NOTHING, []), (("under", "n", "n"), []),
            (SEES, [("n", -1), ("s", 1), ("n", -1)]), (("then", "n", "n"), [("n", 1), ("n", 1)]),
            (("over", "s", ("then", "n", "p")), [("s", 1), ("p", -1), ("n", -1)]),
            (("under", ("then", "n", "p"), "s"), [("p", -1), ("n", -1), ("s", 1)]),
            (("over", NOTHING, "n"), [("n", -1)]), (("over", "p", ("over", "q", "r")), [("p", 1), ("r", 1), ("q", -1)]),
        ]:
            self.assertEqual(letters_of(kind), letters)
            self.assertTrue(are_letters(letters_of(kind)))
        for signs in range(4):
            for kind in all_kinds(["n", "s"], signs)[::1 + 10 * (signs == 3)]:
                self.assertEqual(letters_of(kind), slow_letters([kind]))

    def test_letters_of_row(self):
        self.assertEqual(letters_of_row([]), [])
        self.assertEqual(letters_of_row(["n"]), [("n", 1)])
        self.assertEqual(letters_of_row(["n", "n", GOES]), [("n", 1), ("s", 1)])
        self.assertEqual(letters_of_row(["n", ("over", NOTHING, "n")]), [])
        self.assertEqual(letters_of_row([("over", "s", "n"), "n", ("under", "s", NOTHING)]), [])
        for row in [[SEES, "n"], ["n", SEES, "n"], [RAISED, GOES, PAIR], [PAIR, ("over", NOTHING, PAIR)]]:
            self.assertEqual(letters_of_row(row), slow_letters(row))

    def test_kinds_of_values(self):
        for letter in letters_of(SEES) + letters_of_row([SEES, PAIR]) + turned_back([("n", 1)]):
            self.assertEqual([type(letter), type(letter[0]), type(letter[1])], [tuple, str, int])

    def test_put_letters(self):
        some = letters_up_to(3)
        self.assertEqual(put_letters([], []), [])
        self.assertEqual(put_letters([("n", 1), ("s", 1)], [("s", -1), ("n", -1)]), [])
        self.assertEqual(put_letters([("n", 1), ("s", 1)], [("s", -1), ("s", -1)]), [("n", 1), ("s", -1)])
        for one in some:
            self.assertEqual(put_letters(one, []), one)
            self.assertEqual(put_letters([], one), one)
            for other in some:
                self.assertEqual(put_letters(one, other), cancelled(one + other))

    def test_turned_back(self):
        self.assertEqual(turned_back([]), [])
        self.assertEqual(turned_back([("n", 1), ("s", -1), ("n", 1)]), [("n", -1), ("s", 1), ("n", -1)])
        for letters in letters_up_to(4):
            back = turned_back(letters)
            self.assertEqual(turned_back(back), letters)
            self.assertEqual(put_letters(back, letters), [])
            self.assertTrue(are_letters(back))

    def test_may_give(self):
        self.assertIs(may_give(["n", GOES], "s"), True)
        self.assertIs(may_give([GOES, "n"], "s"), False)
        self.assertIs(may_give([RAISED], "n"), True)
        self.assertIs(may_give([NOTHING], ("under", "s", "s")), True)
        self.assertIs(may_give(["n"], NOTHING), False)
        kinds = all_kinds(["n", "s"], 0) + all_kinds(["n", "s"], 1)
        for row in [[one, other] for one in kinds for other in kinds]:
            for goal in kinds:
                self.assertIs(may_give(row, goal), slow_letters(row) == slow_letters([goal]))
                if gives(row, goal):
                    self.assertIs(may_give(row, goal), True)


class Round(unittest.TestCase):
    def test_nothing(self):
        self.assertIs(are_round([], []), True)
        for letters in letters_up_to(4)[1:]:
            self.assertIs(are_round([], letters), False)
            self.assertIs(are_round(letters, []), False)

    def test_known(self):
        n, s, back = ("n", 1), ("s", 1), ("n", -1)
        for one, other, told in [
            ([n, s], [s, n], True), ([n, s, s], [s, n, s], True), ([n, n, s], [n, s, n], True), ([n], [n], True),
            ([back, s, n], [s], True), ([s], [back, s, n], True), ([back, s, n], [n, s, back], True), ([n], [s], False),
            ([n], [back], False), ([n, n], [n], False), ([n, s, s], [n, n, s], False), ([n, s], [n, ("s", -1)], False),
            ([("s", -1), n, s, s], [n, s], True), ([back, back, s, n, n], [s, n], False),
            ([n, s, n, ("s", -1)], [n, ("s", -1), n, s], True), ([n, s, back, ("s", -1)], [s, n, ("s", -1), back], False),
            ([n, s, n, s], [s, n, s, n], True), ([n, s, n, n], [s, n, n, n], True), ([n, s, n, s], [s, s, n, n], False),
        ]:
            self.assertIs(are_round(one, other), told, (one, other))
            self.assertIs(are_round(other, one), told, (one, other))

    def test_all_that_come_by_turning_round(self):
        some = letters_up_to(3)
        round_ones = {}
        for one in some:
            for around in letters_up_to(4):
                come = cancelled(turned_back(around) + one + around)
                self.assertIs(are_round(one, come), True)
                round_ones.setdefault(str(one), []).append(come)
        for one in some:
            for other in some:
                self.assertIs(are_round(one, other), other in round_ones[str(one)])


class PlainForm(unittest.TestCase):
    def test_known(self):
        self.assertEqual(plain_form([], "n"), NOTHING)
        self.assertEqual(plain_form([], "p"), ("over", "p", "p"))
        self.assertEqual(plain_form([("s", 1)], "n"), "s")
        self.assertEqual(plain_form([("s", -1)], "n"), ("over", NOTHING, "s"))
        self.assertEqual(plain_form([("n", -1)], "n"), ("over", NOTHING, "n"))
        self.assertEqual(plain_form([("a", 1), ("b", 1), ("c", -1)], "n"),
                         ("then", ("then", "a", "b"), ("over", NOTHING, "c")))

    def test_letters(self):
        for letters in letters_up_to(4):
            for plain in ["n", "s", "other"]:
                self.assertEqual(letters_of(plain_form(letters, plain)), letters)


class Turns(unittest.TestCase):
    def test_turn_of(self):
        turns = {"s": [1, 0, 2], "n": [1, 2, 0]}
        for kind, turn in [
            ("n", [1, 2, 0]), ("s", [1, 0, 2]), (("then", "n", "s"), [0, 2, 1]), (("then", "s", "n"), [2, 1, 0]),
            (("over", "n", "n"), [0, 1, 2]), (("under", "n", "n"), [0, 1, 2]), (GOES, [2, 1, 0]), (RAISED, [1, 2, 0]),
            (("over", "s", "n"), [0, 2, 1]), (("then", "n", "n"), [2, 0, 1]), (("over", ("over", "n", "n"), "n"), [2, 0, 1]),
        ]:
            self.assertEqual(turn_of(turns, kind), turn)
        self.assertEqual(turn_of({"n": [0], "s": [0]}, SEES), [0])
        self.assertEqual(turn_of({"n": [1, 0], "other": [0, 1]}, "n"), [1, 0])
        self.assertEqual(turn_of({"n": [0]}, "n"), [0])

    def test_turn_of_as_written_out(self):
        picked = random.Random(2)
        for kind in all_kinds(["n", "s"], 2) + all_kinds(["n", "s"], 3)[::20]:
            turns = {word: picked.sample(range(5), 5) for word in ["s", "p", "n"]}
            self.assertEqual(turn_of(turns, kind), slow_turn(turns, kind))
            if letters_of(kind) == []:
                self.assertEqual(turn_of(turns, kind), [0, 1, 2, 3, 4])

    def test_errors(self):
        for turns, kind, made, value in [
            ({"n": [0]}, "s", InvalidKind, "s"), ({"n": [0]}, GOES, InvalidKind, GOES),
            ({"n": [0]}, None, InvalidKind, None), ({"n": [1]}, None, InvalidTurns, {"n": [1]}),
            ({"n": [False]}, "n", InvalidTurns, {"n": [False]}),
        ]:
            with self.assertRaises(made) as caught:
                turn_of(turns, kind)
            self.assertEqual(repr(caught.exception.value), repr(value))

    def test_result_is_new(self):
        turns = {"n": [1, 0]}
        turn_of(turns, "n").reverse()
        self.assertEqual(turns, {"n": [1, 0]})

    def test_parting_turns(self):
        kinds = all_kinds(["n", "s"], 0) + all_kinds(["n", "s"], 1) + all_kinds(["n", "s"], 2)[::7]
        kinds += [("then", "n", ("then", "n", "n")), ("over", "s", ("then", "n", GOES)), NOTHING, turned(SEES)]
        for one in kinds:
            for other in kinds:
                turns = parting_turns(one, other)
                if slow_letters([one]) == slow_letters([other]):
                    self.assertIsNone(turns)
                else:
                    self.judge(one, other, turns)

    def judge(self, one, other, turns):
        self.assertIs(are_parting_turns(one, other, turns), True)
        self.assertIs(are_parting_turns(other, one, turns), True)
        self.assertNotEqual(slow_turn(turns, one), slow_turn(turns, other))
        self.assertEqual(list(turns), sorted(set(plains_of(one) + plains_of(other))))
        more = {"zzz": turns[list(turns)[0]], **turns}
        self.assertIs(are_parting_turns(one, other, more), True)
        self.assertIs(are_parting_turns(one, other, {word: turn + [len(turn)] for word, turn in turns.items()}), True)
        for word in turns:
            less = {other_word: turn for other_word, turn in turns.items() if other_word != word}
            self.assertIs(are_parting_turns(one, other, less), False)

    def test_same_letters(self):
        for one, other in [("n", RAISED), (NOTHING, ("under", "s", "s")), (PAIR, "s"), (SEES, SEES),
                           (("over", GOES, "n"), ("under", "n", ("over", "s", "n")))]:
            self.assertIsNone(parting_turns(one, other))
            for points in [1, 2, 3]:
                for n, s in itertools.product(itertools.permutations(range(points)), repeat=2):
                    self.assertIs(are_parting_turns(one, other, {"n": list(n), "s": list(s)}), False)

    def test_are_parting_turns(self):
        for turns, told in [
            ({"n": [0], "s": [0]}, False), ({"n": [0, 1], "s": [0, 1]}, False), ({"n": [1, 0], "s": [0, 1]}, True),
            ({"s": [0, 1], "n": [1, 0]}, True), ({"n": [1, 0], "s": [1, 0]}, False), ({"n": [1, 0]}, False),
            ({"n": [1, 0], "s": [0, 1], "t": [1, 0]}, True), ({"n": [1, 0], "s": [0]}, False),
            ({"n": [1, 0], "s": [False, True]}, False),
        ]:
            self.assertIs(are_parting_turns("n", "s", turns), told)
        for wrong in NO_TURNS:
            self.assertIs(are_parting_turns("n", GOES, wrong), False)


if __name__ == "__main__":
    unittest.main()
