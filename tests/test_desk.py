"""phrasejoins.desk: points [59] to [63], and what [2] says of blocks, attempts and copies."""

import random
import unittest

from phrasejoins.derivations import is_derivation_of
from phrasejoins.desk import Desk, replayed
from phrasejoins.errors import (
    InvalidKind, InvalidPlace, NothingToRedo, NothingToUndo, PhraseError, Refused,
)
from phrasejoins.forms import all_kinds
from phrasejoins.giving import gives
from tests.samples import GOES, NO_COUNTS, NO_KINDS, PAIR, RAISED, SEES, slow_letters
from tests.test_arguments import told_by_desk


class OtherError(Exception):
    """An error that is none of the package's."""


def desk_with(row, goal="s"):
    desk = Desk(goal)
    for place, kind in enumerate(row):
        desk.put(place, kind)
    return desk


class Desks(unittest.TestCase):
    def assert_refused(self, desk, name, arguments, made, value):
        """An error, of just this class and with just this value, after which all is as it was."""
        kept = told_by_desk(desk)
        with self.assertRaises(PhraseError) as caught:
            getattr(desk, name)(*arguments)
        self.assertIs(type(caught.exception), made, (name, arguments))
        self.assertIs(caught.exception.value, value)
        self.assertEqual(told_by_desk(desk), kept)

    def test_a_new_desk(self):
        desk = Desk(PAIR)
        self.assertEqual(told_by_desk(desk), [PAIR, [], False, None, [], False, []])
        self.assertIs(desk == desk, True)

    def test_put(self):
        desk = Desk("s")
        self.assertIsNone(desk.put(0, "b"))
        self.assertIsNone(desk.put(1, "d"))
        self.assertIsNone(desk.put(0, "a"))
        self.assertIsNone(desk.put(2, "c"))
        self.assertEqual(desk.row(), ["a", "b", "c", "d"])
        desk.put(place=4, kind=GOES)
        self.assertEqual(desk.row(), ["a", "b", "c", "d", GOES])
        # Five types: nothing goes in any more, at no place.
        for place in range(6):
            self.assert_refused(desk, "put", (place, SEES), Refused, SEES)

    def test_take(self):
        desk = desk_with(["a", GOES, "c"])
        self.assertEqual([desk.take(1), desk.row()], [GOES, ["a", "c"]])
        self.assertEqual([desk.take(place=1), desk.take(0), desk.row()], ["c", "a", []])
        self.assertEqual(desk.record()[3:], [("take", 1), ("take", 1), ("take", 0)])
        self.assert_refused(desk, "take", (0,), InvalidPlace, 0)

    def test_use(self):
        for row, place, came in [
            ([SEES, "n"], 0, [GOES]), (["n", GOES], 0, ["s"]), (["n", SEES, "n"], 1, ["n", GOES]),
            (["a", "n", GOES, "b"], 1, ["a", "s", "b"]), ([("over", PAIR, GOES), GOES], 0, [PAIR]),
            ([GOES, ("under", GOES, PAIR), "n"], 0, [PAIR, "n"]), ([RAISED, GOES], 0, ["s"]),
            ([("over", "n", "n"), "n", ("under", "n", "n")], 0, ["n", ("under", "n", "n")]),
            ([("over", "n", "n"), "n", ("under", "n", "n")], 1, [("over", "n", "n"), "n"]),
        ]:
            desk = desk_with(row)
            self.assertIsNone(desk.use(place))
            self.assertEqual(desk.row(), came)
            self.assertEqual(desk.record()[len(row):], [("use", place)])

    def test_use_refused(self):
        for row, place in [
            (["n", "n"], 0), (["n", SEES], 0), ([GOES, "n"], 0), ([SEES, "s"], 0), (["s", GOES], 0), (["n", PAIR], 0),
            ([PAIR, "n"], 0), ([("over", "n", "s"), GOES], 0), (["over", "under"], 0), ([GOES, GOES], 0), ([SEES, SEES], 0),
            (["n", ("over", "n", "n")], 0), ([("under", "n", "s"), "n"], 0), ([("then", "s", "n"), "n"], 0),
            (["n", ("then", "n", "s")], 0), (["n", GOES, "n"], 1),
        ]:
            self.assert_refused(desk_with(row), "use", (place,), Refused, place)

    def test_use_of_two_that_are_there(self):
        desk = desk_with(["n", GOES])
        for place in [1, 2, 10 ** 29]:
            self.assert_refused(desk, "use", (place,), InvalidPlace, place)
        self.assert_refused(desk_with([SEES]), "use", (0,), InvalidPlace, 0)
        self.assert_refused(Desk("s"), "use", (0,), InvalidPlace, 0)

    def test_make(self):
        desk = desk_with(["n", GOES])
        self.assertIsNone(desk.make(0, RAISED))
        self.assertEqual(desk.row(), [RAISED, GOES])
        desk.make(place=1, kind=GOES)
        self.assertEqual(desk.row(), [RAISED, GOES])
        self.assertEqual(desk.record()[2:], [("make", 0, RAISED), ("make", 1, GOES)])
        for place, kind in [(0, "n"), (0, GOES), (1, "s"), (1, ("over", "s", "n")), (0, ("then", "n", "n"))]:
            self.assert_refused(desk, "make", (place, kind), Refused, kind)

    def test_whatever_gave_the_goal_gave_it_ahead(self):
        picked = random.Random(2)
        kinds = all_kinds(["n", "s"], 0) + all_kinds(["n", "s"], 1) + [SEES, RAISED]
        used = 0
        for _ in range(3000):
            desk = desk_with(picked.choices(kinds, k=picked.randrange(2, 5)), picked.choice(kinds))
            ahead = desk.gives()
            try:
                desk.use(0)
            except Refused:
                continue
            used += 1
            self.assertTrue(ahead or not desk.gives())
        self.assertGreater(used, 100)

    def test_wrong_arguments(self):
        desk = desk_with(["n", GOES])
        desk.undo()
        for wrong in NO_COUNTS:
            for name, arguments in [
                ("put", (wrong, "n")), ("put", (wrong, None)), ("take", (wrong,)), ("use", (wrong,)), ("make", (wrong, "n")),
                ("make", (wrong, [])),
            ]:
                self.assert_refused(desk, name, arguments, InvalidPlace, wrong)
        for place in [2, 3, 10 ** 29]:
            self.assert_refused(desk, "put", (place, None), InvalidPlace, place)
        for place in [1, 2, 10 ** 29]:
            self.assert_refused(desk, "take", (place,), InvalidPlace, place)
            self.assert_refused(desk, "use", (place,), InvalidPlace, place)
            self.assert_refused(desk, "make", (place, None), InvalidPlace, place)
        full = desk_with("abcde")
        full.undo()
        full.redo()
        for wrong in NO_KINDS:
            self.assert_refused(desk, "put", (0, wrong), InvalidKind, wrong)
            self.assert_refused(desk, "make", (0, wrong), InvalidKind, wrong)
            self.assert_refused(full, "put", (5, wrong), InvalidKind, wrong)
        self.assert_refused(full, "put", (6, "a"), InvalidPlace, 6)

    def test_what_the_row_tells(self):
        for row, goal in [
            (["n", GOES], "s"), (["n", GOES], "n"), ([], "s"), ([], ("over", "n", "n")), (["n"], RAISED), ([RAISED], "n"),
            (["n", SEES, "n"], "s"), ([("over", "n", "n")], ("under", "s", "s")), (["n", "s"], ("then", "n", "s")),
        ]:
            desk = desk_with(row, goal)
            given = bool(row) and gives(row, goal)
            self.assertIs(desk.gives(), given)
            self.assertIs(desk.derivation() is not None, given)
            self.assertTrue(not given or is_derivation_of(row, goal, desk.derivation()))
            self.assertEqual(desk.letters(), slow_letters(row))
            self.assertIs(desk.can_give(), slow_letters(row) == slow_letters([goal]))
            self.assertEqual([desk.goal(), desk.row()], [goal, row])

    def test_the_empty_row(self):
        for goal, can in [("s", False), (GOES, False), (("over", "n", "n"), True), (("then", GOES, ("over", "n", "s")), False),
                          (("then", GOES, ("under", "s", "n")), True)]:
            desk = Desk(goal)
            self.assertEqual([desk.gives(), desk.derivation(), desk.letters(), desk.can_give()], [False, None, [], can])

    def test_undo_and_redo(self):
        desk = Desk("s")
        rows = [desk.row()]
        for name, arguments in [
            ("put", (0, GOES)), ("put", (0, "n")), ("make", (0, RAISED)), ("use", (0,)), ("take", (0,)), ("put", (0, SEES)),
        ]:
            getattr(desk, name)(*arguments)
            rows.append(desk.row())
        record = desk.record()
        for many in range(6, 0, -1):
            self.assertEqual(desk.row(), rows[many])
            self.assertEqual(desk.record(), record[:many])
            self.assertIsNone(desk.undo())
        self.assertEqual([desk.row(), desk.record()], [[], []])
        with self.assertRaises(NothingToUndo):
            desk.undo()
        for many in range(1, 7):
            self.assertIsNone(desk.redo())
            self.assertEqual([desk.row(), desk.record()], [rows[many], record[:many]])
        with self.assertRaises(NothingToRedo):
            desk.redo()
        self.assertEqual([desk.row(), desk.record()], [rows[6], record])

    def test_undo_and_redo_by_turns(self):
        desk = desk_with(["a", "b", "c"])
        for _ in range(3):
            desk.undo()
            desk.undo()
            self.assertEqual(desk.row(), ["a"])
            desk.redo()
            self.assertEqual(desk.row(), ["a", "b"])
            desk.redo()
            self.assertEqual(desk.row(), ["a", "b", "c"])

    def test_a_command_behind_undo(self):
        for name, arguments in [("put", (0, "b")), ("take", (0,)), ("make", (0, "a")), ("make", (0, ("over", "b", ("under", "a", "b"))))]:
            desk = desk_with(["a", "c"])
            desk.undo()
            getattr(desk, name)(*arguments)
            with self.assertRaises(NothingToRedo):
                desk.redo()
            desk.undo()
            desk.redo()
            self.assertEqual(desk.record()[1][0], name)
        desk = desk_with(["n", GOES, "n"])
        desk.undo()
        desk.use(0)
        with self.assertRaises(NothingToRedo):
            desk.redo()

    def test_a_refused_command_leaves_what_can_be_made_again(self):
        desk = desk_with(["a", "b"])
        desk.undo()
        for name, arguments in [("take", (1,)), ("use", (0,)), ("make", (0, "b")), ("put", (5, "a")), ("put", (0, None))]:
            with self.assertRaises(PhraseError):
                getattr(desk, name)(*arguments)
        desk.redo()
        self.assertEqual([desk.row(), desk.record()], [["a", "b"], [("put", 0, "a"), ("put", 1, "b")]])

    def test_a_command_that_changes_nothing_is_one(self):
        desk = desk_with(["a"])
        desk.make(0, "a")
        self.assertEqual(desk.record(), [("put", 0, "a"), ("make", 0, "a")])
        desk.undo()
        self.assertEqual([desk.row(), desk.record()], [["a"], [("put", 0, "a")]])
        desk.redo()
        self.assertEqual(len(desk.record()), 2)

    def test_a_block(self):
        desk = desk_with(["a", "b", "c"])
        desk.undo()
        kept = told_by_desk(desk)
        with desk.trial() as inner:
            self.assertIs(inner, desk)
            desk.take(0)
            desk.put(0, "d")
            self.assertEqual(desk.row(), ["d", "b"])
        self.assertEqual(told_by_desk(desk), kept)
        with desk.trial():
            desk.redo()
            self.assertEqual(desk.row(), ["a", "b", "c"])
            for _ in range(3):
                desk.undo()
            self.assertEqual([desk.row(), desk.record()], [[], []])
            with self.assertRaises(NothingToUndo):
                desk.undo()
        self.assertEqual(told_by_desk(desk), kept)
        with desk.trial():
            pass
        self.assertEqual(told_by_desk(desk), kept)

    def test_a_block_begins_when_it_is_entered(self):
        desk = desk_with(["a"])
        block = desk.trial()
        desk.put(1, "b")
        kept = told_by_desk(desk)
        with block:
            desk.take(0)
        self.assertEqual(told_by_desk(desk), kept)

    def test_blocks_within_blocks(self):
        desk = desk_with(["a"])
        kept = [told_by_desk(desk)]
        with desk.trial():
            desk.put(0, "b")
            kept.append(told_by_desk(desk))
            with desk.trial() as inner:
                inner.undo()
                kept.append(told_by_desk(desk))
                with desk.trial():
                    desk.undo()
                    desk.put(0, "c")
                    self.assertEqual(desk.record(), [("put", 0, "c")])
                self.assertEqual(told_by_desk(desk), kept[2])
            self.assertEqual(told_by_desk(desk), kept[1])
            with desk.trial():
                desk.take(1)
            self.assertEqual(told_by_desk(desk), kept[1])
        self.assertEqual(told_by_desk(desk), kept[0])

    def test_blocks_left_by_errors(self):
        for made in [Refused, OtherError, NothingToUndo, ZeroDivisionError]:
            desk = desk_with(["a", "b"])
            desk.undo()
            kept = told_by_desk(desk)
            error = made()
            with self.assertRaises(made) as caught:
                with desk.trial():
                    desk.put(0, "c")
                    with desk.trial():
                        desk.undo()
                        desk.undo()
                        raise error
            self.assertIs(caught.exception, error)
            self.assertEqual(told_by_desk(desk), kept)
        with self.assertRaises(Refused) as caught:
            with desk.trial():
                desk.put(0, "c")
                desk.make(0, "d")
        self.assertEqual(caught.exception.value, "d")
        self.assertEqual(told_by_desk(desk), kept)

    def test_an_error_caught_between_blocks(self):
        desk = desk_with(["a"])
        with desk.trial():
            desk.put(0, "b")
            with self.assertRaises(InvalidPlace):
                with desk.trial():
                    desk.put(0, "c")
                    desk.take(9)
            self.assertEqual(desk.row(), ["b", "a"])
        self.assertEqual(desk.row(), ["a"])

    def test_attempt(self):
        desk = desk_with(["n", GOES])
        desk.make(0, RAISED)
        desk.undo()
        kept = told_by_desk(desk)
        returned = [["told"], {}]
        calls = []

        def action(inner):
            calls.append(inner)
            inner.use(0)
            self.assertEqual(desk.row(), ["s"])
            return returned

        self.assertIs(desk.attempt(action), returned)
        self.assertEqual(len(calls), 1)
        self.assertIs(calls[0], desk)
        self.assertEqual(told_by_desk(desk), kept)
        self.assertIsNone(desk.attempt(action=lambda inner: inner.undo()))
        self.assertIs(desk.attempt(lambda inner: inner), desk)
        self.assertEqual(desk.attempt(lambda inner: inner.attempt(lambda again: [again.take(0), again.row()])), ["n", [GOES]])
        self.assertEqual(told_by_desk(desk), kept)

    def test_attempts_left_by_errors(self):
        desk = desk_with(["n", GOES])
        kept = told_by_desk(desk)
        error = OtherError()

        def action(inner):
            calls.append(inner)
            inner.take(0)
            raise error

        calls = []
        with self.assertRaises(OtherError) as caught:
            desk.attempt(action)
        self.assertIs(caught.exception, error)
        self.assertEqual(len(calls), 1)
        self.assertEqual(told_by_desk(desk), kept)
        with self.assertRaises(InvalidPlace):
            desk.attempt(lambda inner: inner.take(7))
        self.assertEqual(told_by_desk(desk), kept)

    def test_copies(self):
        desk = desk_with(["a", "b", "c"], PAIR)
        desk.undo()
        other = desk.copy()
        self.assertIs(type(other), Desk)
        self.assertIsNot(other, desk)
        kept = told_by_desk(desk)
        self.assertEqual(told_by_desk(other), kept)
        other.redo()
        other.take(0)
        self.assertEqual(told_by_desk(desk), kept)
        self.assertEqual(other.row(), ["b", "c"])
        desk.undo()
        desk.put(1, "d")
        self.assertEqual([desk.row(), other.row()], [["a", "d"], ["b", "c"]])
        other.undo()
        other.undo()
        other.undo()
        self.assertEqual([desk.row(), other.row()], [["a", "d"], ["a"]])

    def test_copies_within_blocks(self):
        desk = desk_with(["a"])
        with desk.trial():
            desk.put(1, "b")
            desk.undo()
            other = desk.copy()
            with other.trial():
                other.redo()
                desk.take(0)
                self.assertEqual([desk.row(), other.row()], [[], ["a", "b"]])
            self.assertEqual([desk.row(), other.row()], [[], ["a"]])
            other.redo()
        self.assertEqual([desk.row(), other.row()], [["a"], ["a", "b"]])
        with self.assertRaises(NothingToRedo):
            desk.redo()
        self.assertEqual(other.record(), [("put", 0, "a"), ("put", 1, "b")])
        copied = desk.attempt(lambda inner: [inner.put(0, "c"), inner.copy()][1])
        self.assertEqual([copied.row(), desk.row()], [["c", "a"], ["a"]])
        copied.undo()
        self.assertEqual(copied.row(), ["a"])

    def test_record(self):
        desk = Desk("s")
        self.assertEqual(desk.record(), [])
        desk.put(0, GOES)
        desk.put(0, "n")
        desk.make(0, RAISED)
        desk.use(0)
        desk.take(0)
        record = [("put", 0, GOES), ("put", 0, "n"), ("make", 0, RAISED), ("use", 0), ("take", 0)]
        self.assertEqual(desk.record(), record)
        desk.undo()
        desk.undo()
        self.assertEqual(desk.record(), record[:3])
        desk.redo()
        self.assertEqual(desk.record(), record[:4])
        desk.put(1, "n")
        self.assertEqual(desk.record(), record[:4] + [("put", 1, "n")])
        desk.record().clear()
        self.assertEqual(len(desk.record()), 5)
        self.assertEqual(told_by_desk(replayed(Desk("s"), desk.record())), told_by_desk(desk))

    def test_replayed(self):
        desk = desk_with(["n", GOES])
        desk.make(0, RAISED)
        desk.undo()
        kept = told_by_desk(desk)
        other = replayed(desk, [("use", 0), ("take", 0), ("put", 0, PAIR)])
        self.assertEqual([other.row(), other.goal()], [[PAIR], "s"])
        self.assertEqual(other.record(), desk.record() + [("use", 0), ("take", 0), ("put", 0, PAIR)])
        with self.assertRaises(NothingToRedo):
            other.redo()
        self.assertEqual(told_by_desk(desk), kept)
        same = replayed(desk=desk, record=[])
        self.assertIsNot(same, desk)
        self.assertEqual(told_by_desk(same), kept)
        same.redo()
        self.assertEqual([same.row(), desk.row()], [[RAISED, GOES], ["n", GOES]])

    def test_replayed_with_what_the_methods_refuse(self):
        desk = desk_with(["n", GOES])
        desk.undo()
        kept = told_by_desk(desk)
        great = 10 ** 29
        for record, made, value in [
            ([("take", 0), ("take", 0)], InvalidPlace, 0), ([("take", 5)], InvalidPlace, 5), ([("use", 0)], InvalidPlace, 0),
            ([("put", 2, "n")], InvalidPlace, 2), ([("put", 1, "s"), ("use", 0)], Refused, 0), ([("make", 0, "s")], Refused, "s"),
            ([("put", 0, "a")] * 5, Refused, "a"), ([("make", great, "s")], InvalidPlace, great),
        ]:
            with self.assertRaises(made) as caught:
                replayed(desk, record)
            self.assertIs(type(caught.exception), made)
            self.assertEqual(caught.exception.value, value)
            self.assertEqual(told_by_desk(desk), kept)

    def test_what_is_returned_may_be_changed(self):
        desk = desk_with(["n", GOES])
        kept = told_by_desk(desk)
        for told in [desk.row(), desk.letters(), desk.record()]:
            told.clear()
        self.assertEqual(told_by_desk(desk), kept)
        record = [("take", 0)]
        other = replayed(desk, record)
        record.append(("take", 0))
        self.assertEqual(other.row(), [GOES])

    def test_many_commands(self):
        """A desk played at random beside a plain one that keeps all rows."""
        picked = random.Random(12)
        kinds = ["n", "s", GOES, SEES, RAISED]
        for _ in range(30):
            desk = Desk("s")
            rows, place = [[]], 0
            for _ in range(60):
                name = picked.choice(["put", "put", "take", "use", "make", "undo", "redo"])
                at, kind = picked.randrange(6), picked.choice(kinds)
                arguments = {"put": (at, kind), "take": (at,), "use": (at,), "make": (at, kind)}.get(name, ())
                row = rows[place]
                try:
                    getattr(desk, name)(*arguments)
                except NothingToUndo:
                    self.assertEqual(place, 0)
                except NothingToRedo:
                    self.assertEqual(place, len(rows) - 1)
                except PhraseError:
                    self.assertEqual(desk.row(), row)
                else:
                    if name == "undo":
                        place -= 1
                    elif name == "redo":
                        place += 1
                    else:
                        rows = rows[:place + 1] + [desk.row()]
                        place += 1
                self.assertEqual(desk.row(), rows[place])
                self.assertEqual(len(desk.record()), place)


if __name__ == "__main__":
    unittest.main()
