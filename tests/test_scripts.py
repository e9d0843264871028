"""phrasejoins.scripts: points [64] to [66]."""

import random
import unittest

from phrasejoins.desk import Desk
from phrasejoins.errors import InvalidDesk, InvalidKind, InvalidPaper, InvalidScript, NothingToRedo, PhraseError
from phrasejoins.scripts import end_of, needless, play, read_script, script_text
from tests.samples import GOES, PAIR, RAISED
from tests.test_arguments import told_by_desk

TOLD = ("told", None)
NO_PLACE = ("refused", "InvalidPlace")
PUT_N = ("put", 0, "n")
PUT_GOES = ("put", 1, GOES)


def slow_play(desk, script):
    """What comes of a script, written out as the document tells it, and whether nothing is refused."""
    came = []
    for command in script:
        if command[0] == "try":
            kept = desk._state
            within, good = slow_try(desk, command[1])
            if not good:
                desk._state = kept
            came.append(("tried", within))
        else:
            came.append(slow_command(desk, command))
    return came


def slow_try(desk, script):
    came = []
    for command in script:
        if command[0] == "try":
            within, good = slow_try(desk, command[1])
            came.append(("tried", within))
        else:
            came.append(slow_command(desk, command))
            good = came[-1][0] == "told"
        if not good:
            return came, False
    return came, True


def slow_command(desk, command):
    try:
        return ("told", getattr(desk, command[0])(*command[1:]))
    except PhraseError as error:
        return ("refused", type(error).__name__)


def slow_text(script, depth=0):
    lines = []
    for command in script:
        if command[0] == "try":
            lines += [" " * depth + "try"] + slow_text(command[1], depth + 1) + [" " * depth + "end"]
        else:
            lines.append(" " * depth + " ".join(slow_thing(thing) for thing in command))
    return lines


def slow_thing(thing):
    if isinstance(thing, tuple):
        return f"({slow_thing(thing[1])} {thing[0]} {slow_thing(thing[2])})"
    return str(thing)


def some_script(picked, many, depth, within=False):
    script = []
    for _ in range(many):
        name = picked.choice(["put", "put", "put", "take", "use", "make", "undo", "redo", "try", "try"])
        place, kind = picked.choice([0, 0, 0, 1, 1, 2, 7]), picked.choice(["n", "s", GOES, RAISED, "end", "try"])
        if name == "try" and depth:
            script.append(("try", some_script(picked, picked.randrange(4), depth - 1, True)))
        elif name in ("undo", "redo") and not within:
            script.append((name,))
        elif name in ("put", "make"):
            script.append((name, place, kind))
        elif name in ("take", "use"):
            script.append((name, place))
    return script


class Scripts(unittest.TestCase):
    def test_commands(self):
        desk = Desk("s")
        script = [PUT_N, PUT_GOES, ("make", 0, RAISED), ("use", 0), ("undo",), ("redo",), ("take", 0), ("undo",)]
        self.assertEqual(play(desk, script), [TOLD] * 6 + [("told", "s"), TOLD])
        self.assertEqual([desk.row(), len(desk.record())], [["s"], 4])
        self.assertEqual(play(desk, []), [])

    def test_what_is_refused(self):
        desk = Desk("s")
        for command, name in [
            (("undo",), "NothingToUndo"), (("redo",), "NothingToRedo"), (("take", 0), "InvalidPlace"),
            (("use", 0), "InvalidPlace"), (("put", 1, "n"), "InvalidPlace"), (("make", 0, "n"), "InvalidPlace"),
        ]:
            self.assertEqual(play(desk, [command]), [("refused", name)])
        play(desk, [("put", 0, "n")] * 5)
        kept = told_by_desk(desk)
        for command in [("put", 0, "n"), ("use", 0), ("make", 0, "s")]:
            self.assertEqual(play(desk, [command, command]), [("refused", "Refused")] * 2)
            self.assertEqual(told_by_desk(desk), kept)

    def test_behind_what_is_refused_it_goes_on(self):
        desk = Desk("s")
        self.assertEqual(play(desk, [("take", 0), PUT_N, ("take", 4), ("put", 1, "s")]), [NO_PLACE, TOLD, NO_PLACE, TOLD])
        self.assertEqual(desk.row(), ["n", "s"])

    def test_a_try_that_is_kept(self):
        desk = Desk("s")
        self.assertEqual(play(desk, [("try", [PUT_N, PUT_GOES, ("take", 0)])]), [("tried", [TOLD, TOLD, ("told", "n")])])
        self.assertEqual(desk.record(), [PUT_N, PUT_GOES, ("take", 0)])
        # Each of its deeds is taken back on its own.
        desk.undo()
        self.assertEqual(desk.row(), ["n", GOES])
        desk.undo()
        self.assertEqual(desk.row(), ["n"])
        desk.redo()
        self.assertEqual(desk.row(), ["n", GOES])

    def test_a_try_that_is_refused(self):
        desk = Desk("s")
        play(desk, [PUT_N, PUT_GOES, ("undo",)])
        kept = told_by_desk(desk)
        came = play(desk, [("try", [("put", 0, "s"), ("take", 5), ("put", 0, "s"), ("take", 0)])])
        self.assertEqual(came, [("tried", [TOLD, NO_PLACE])])
        self.assertEqual(told_by_desk(desk), kept)
        desk.redo()
        self.assertEqual(desk.row(), ["n", GOES])

    def test_tries_within_tries(self):
        desk = Desk("s")
        script = [("try", [PUT_N, ("try", [PUT_GOES, ("try", [("use", 0)])]), ("put", 1, "n")])]
        self.assertEqual(play(desk, script), [("tried", [TOLD, ("tried", [TOLD, ("tried", [TOLD])]), TOLD])])
        self.assertEqual(desk.record(), [PUT_N, PUT_GOES, ("use", 0), ("put", 1, "n")])
        for many in [3, 2, 1, 0]:
            desk.undo()
            self.assertEqual(len(desk.record()), many)

    def test_a_refused_try_within_another(self):
        desk = Desk("s")
        play(desk, [PUT_N, PUT_GOES, ("undo",)])
        kept = told_by_desk(desk)
        script = [("try", [("put", 0, "s"), ("try", [("put", 0, "s"), ("use", 7), ("take", 0)]), ("take", 0)]), PUT_N]
        self.assertEqual(play(desk.copy(), script)[0], ("tried", [TOLD, ("tried", [TOLD, NO_PLACE])]))
        self.assertEqual(play(desk, script[:1]), [("tried", [TOLD, ("tried", [TOLD, NO_PLACE])])])
        self.assertEqual(told_by_desk(desk), kept)
        self.assertEqual(play(desk, script)[1], TOLD)
        self.assertEqual(desk.row(), ["n", "n"])
        deep = [("try", [("try", [("try", [("take", 9)]), PUT_N]), PUT_N]), PUT_N]
        self.assertEqual(play(Desk("s"), deep), [("tried", [("tried", [("tried", [NO_PLACE])])]), TOLD])

    def test_a_try_of_nothing(self):
        desk = Desk("s")
        play(desk, [PUT_N, PUT_GOES, ("undo",)])
        kept = told_by_desk(desk)
        self.assertEqual(play(desk, [("try", []), ("try", [("try", [])])]), [("tried", []), ("tried", [("tried", [])])])
        self.assertEqual(told_by_desk(desk), kept)
        desk.redo()

    def test_a_kept_try_leaves_nothing_to_be_made_again(self):
        desk = Desk("s")
        play(desk, [PUT_N, PUT_GOES, ("undo",), ("try", [("put", 1, "n")])])
        with self.assertRaises(NothingToRedo):
            desk.redo()

    def test_undo_of_what_stood_ahead(self):
        desk = Desk("s")
        desk.put(0, "n")
        self.assertEqual(play(desk, [("undo",), ("undo",), ("redo",)]), [TOLD, ("refused", "NothingToUndo"), TOLD])
        self.assertEqual(desk.row(), ["n"])

    def test_played_at_random(self):
        picked = random.Random(8)
        for _ in range(400):
            script = some_script(picked, 10, 3)
            desk, other = Desk("s"), Desk("s")
            self.assertEqual(play(desk, script), slow_play(other, script))
            self.assertEqual(told_by_desk(desk), told_by_desk(other))
            self.assertEqual(end_of("s", script), (other.row(), other.gives()))

    def test_the_script_is_not_changed(self):
        script = [PUT_N, ("try", [PUT_GOES, ("try", [("take", 5)])])]
        kept = [PUT_N, ("try", [PUT_GOES, ("try", [("take", 5)])])]
        came = play(Desk("s"), script)
        came[1][1].clear()
        came.clear()
        self.assertEqual(script, kept)
        self.assertEqual(play(Desk("s"), script), [TOLD, ("tried", [TOLD, ("tried", [NO_PLACE])])])

    def test_ends(self):
        for goal, script, end in [
            ("s", [PUT_N, PUT_GOES], (["n", GOES], True)), ("s", [], ([], False)), ("s", [PUT_N], (["n"], False)),
            ("n", [PUT_N, PUT_GOES, ("undo",)], (["n"], True)), ("s", [("try", [PUT_N, PUT_GOES, ("use", 0)])], (["s"], True)),
            ("s", [("try", [PUT_N, ("take", 3)])], ([], False)), (("over", "n", "n"), [("take", 0)], ([], False)),
        ]:
            self.assertEqual(end_of(goal, script), end)
            self.assertIs(type(end_of(goal, script)), tuple)

    def test_needless(self):
        for goal, script, places in [
            ("s", [], []), ("s", [PUT_N], []), ("s", [PUT_N, PUT_GOES], []), ("s", [PUT_N, ("take", 0)], [0]),
            ("s", [("take", 0)], [0]), ("s", [("take", 0), ("undo",), ("redo",)], [0, 1, 2]), ("n", [PUT_N, PUT_N, ("undo",)], []),
            ("s", [PUT_N, ("try", []), ("try", [("take", 4)])], [1, 2]), ("s", [PUT_N, PUT_N, ("take", 0)], []),
            ("s", [PUT_N, ("make", 0, "n"), ("take", 7)], [1, 2]), ("s", [("try", [PUT_N]), ("undo",), PUT_N], [0]),
            ("s", [PUT_N, PUT_GOES, ("try", [("use", 0), ("take", 4)]), ("use", 0), ("undo",)], [2]),
            ("n", [PUT_N, ("undo",), ("redo",), ("undo",), ("redo",)], [1, 2, 3]), ("s", [("try", [PUT_N, PUT_GOES]), ("try", [("take", 2)])], [1]),
        ]:
            found = []
            for place in range(len(script)):
                if end_of(goal, script[:place] + script[place + 1:]) == end_of(goal, script):
                    found.append(place)
            self.assertEqual(needless(goal, script), found)
            self.assertEqual(found, places)

    def test_each_command_needless_or_none(self):
        self.assertEqual(needless("s", [("take", 0)] * 12), list(range(12)))
        self.assertEqual(needless("s", [("put", 0, word) for word in "abcde"]), [])

    def test_texts(self):
        for script, text in [
            ([], ""), ([PUT_N], "put 0 n"), ([("undo",)], "undo"), ([("redo",), ("undo",)], "redo\nundo"),
            ([("take", 0), ("use", 12)], "take 0\nuse 12"), ([("make", 3, PAIR)], "make 3 (n then (n under s))"),
            ([("try", [])], "try\nend"), ([("try", []), ("try", [])], "try\nend\ntry\nend"),
            ([("try", [("try", [("try", [PUT_N])]), ("take", 1)])], "try\n try\n  try\n   put 0 n\n  end\n end\n take 1\nend"),
            ([("put", 0, "end"), ("make", 0, "try"), ("put", 1, "put")], "put 0 end\nmake 0 try\nput 1 put"),
            ([("put", 10 ** 29, ("over", "then", "over"))], f"put {10 ** 29} (then over over)"),
            ([("use", 10 ** 30 - 1)], "use " + "9" * 30),
        ]:
            self.assertEqual(script_text(script), text)
            self.assertEqual(read_script(text), script)

    def test_what_is_written_is_read(self):
        picked = random.Random(9)
        for _ in range(300):
            script = some_script(picked, 8, 3)
            text = script_text(script)
            self.assertEqual(text, "\n".join(slow_text(script)))
            self.assertEqual(read_script(text), script)

    def test_no_texts(self):
        for text in [
            " ", "\n", "put", "put 0", "put  0 n", "put 0  n", "put 0 n ", " put 0 n", "put 0 n\n", "\nput 0 n", "put 00 n",
            "put 01 n", "put +1 n", "put -1 n", "put 1.0 n", "put 0x1 n", "put 1_0 n", "put 0 N", "put 0 n n", "put n 0",
            "put\t0 n", "put 0\tn", "Put 0 n", "PUT 0 n", "put 0 (n under s", "put 0 n under s", "put 0 ((n under s))",
            "put 0 (n  under s)", "take", "take 0 n", "take 0 0", "take  0", "take 0 ", "take 00", "take n", "take -0", "use",
            "use 0 ", "use 0\n\nuse 0", "use 0\n \nuse 0", "use 0\r\nuse 0", "use 0\n use 0", "make 0", "make n", "undo ", "undo 0",
            " undo", "redo\n", "Undo", "undo\tredo", "undo redo", "none", "none 0", "n", "(n under s)", "try", "end", "try\n", "try\nend\n",
            "\ntry\nend", "try\nend\nend", "try\ntry\nend", "end\ntry", "try\n end", " try\nend", "try\n\nend", "try end",
            "try\ntake 0\nend", "try\n  take 0\nend", "try\n\ttake 0\nend", "try\n take 0\n end", "try\n take 0", "try \n take 0\nend",
            "try\n try\n take 0\n end\nend", "try\n try\nend\nend", "try\n undo\nend", "try\n redo\nend", "try\n try\n  undo\n end\nend",
            "try\n take 0\nend ", "Try\nEnd", "try 0\nend", "try\nend 0", "put 0 n\ntry", "take 0,", "take 0; use 0", "('take', 0)",
            "take " + "0" * 30, "record", "attempt", "gives", "put 0 ()", "put 0 (", "make 0 n\nput", "take 1 ", "take  ", "put   ",
        ]:
            with self.assertRaises(InvalidPaper, msg=text) as caught:
                read_script(text)
            self.assertIs(caught.exception.value, text)

    def test_the_order_of_errors(self):
        with self.assertRaises(InvalidDesk):
            play(None, None)
        with self.assertRaises(InvalidKind):
            end_of(None, None)
        with self.assertRaises(InvalidKind):
            needless(["s"], [("undo", 1)])
        for function in [end_of, needless]:
            script = [("try", [("undo",)])]
            with self.assertRaises(InvalidScript) as caught:
                function("s", script)
            self.assertIs(caught.exception.value, script)

    def test_a_bent_script_changes_nothing(self):
        desk = Desk("s")
        for script in [[PUT_N, ("take", -1)], [PUT_N, ("try", [("undo",)])], [PUT_N, ["take", 0]], (PUT_N,)]:
            with self.assertRaises(InvalidScript):
                play(desk, script)
            self.assertEqual(desk.row(), [])


if __name__ == "__main__":
    unittest.main()
