"""Point [3] for changes, desks, scripts and texts: calls at the limits end soon."""

import random
import time
import unittest

from phrasejoins.changes import composing, dividing, packing, parting, raising, swapping
from phrasejoins.derivations import knots_of, told_by
from phrasejoins.desk import Desk, replayed
from phrasejoins.errors import InvalidPaper, NothingToRedo, PhraseError
from phrasejoins.forms import signs_of
from phrasejoins.papers import kind_text, kinds_text, read_kind, read_kinds, read_row, row_text
from phrasejoins.scripts import end_of, needless, play, read_script, script_text
from tests.samples import deep_kind
from tests.test_arguments import told_by_desk
from tests.test_limits import greatest_asked, some_kind

SECONDS = 20
SIGNS = ["over", "under", "then"]


class Limits(unittest.TestCase):
    def setUp(self):
        self.began = time.monotonic()

    def tearDown(self):
        self.assertLess(time.monotonic() - self.began, SECONDS)

    def test_changes(self):
        a, b, c = [some_kind(random.Random(seed), 14, "npq", SIGNS) for seed in range(3)]
        for made in [
            raising(a, b, "over"), raising(a, b, "under"), composing(("over", a, b), ("over", b, c)),
            composing(("under", c, b), ("under", b, a)), dividing(("over", a, b), c), dividing(("under", b, a), c),
            swapping(("over", ("under", b, a), c)), swapping(("under", b, ("over", a, c))),
            parting(("over", a, ("then", b, c))), parting(("under", ("then", b, c), a)),
            packing(("over", ("over", a, c), b)), packing(("under", c, ("under", b, a))),
        ]:
            self.assertTrue(told_by(made))
            self.assertLess(knots_of(made), 10)

    def test_desks_with_great_rows(self):
        for row, goal in greatest_asked(150):
            desk = Desk(goal)
            for place, kind in enumerate(row):
                desk.put(place, kind)
            self.assertIs(desk.gives(), desk.derivation() is not None)
            self.assertIs(desk.can_give(), True)
            for place in range(5):
                try:
                    desk.make(place, goal)
                except PhraseError:
                    pass

    def test_many_commands_and_deep_blocks(self):
        picked = random.Random(3)
        desk = Desk("p")
        while len(desk.record()) < 60:
            if len(desk.row()) < 5:
                kind = picked.choice(["p", ("over", "p", "p"), ("under", "p", "p")])
                desk.put(picked.randrange(len(desk.row()) + 1), kind)
            else:
                desk.take(picked.randrange(5))
        kept = told_by_desk(desk)

        def deeper(inner):
            inner.undo()
            depths.append(len(inner.record()))
            ahead = told_by_desk(inner)
            if len(depths) < 10:
                inner.attempt(deeper)
            self.assertEqual(told_by_desk(inner), ahead)

        depths = []
        desk.attempt(deeper)
        self.assertEqual(depths, list(range(59, 49, -1)))
        self.assertEqual(told_by_desk(desk), kept)
        again = replayed(Desk("p"), desk.record())
        self.assertEqual(told_by_desk(again), kept)
        for _ in range(60):
            again.undo()
        self.assertEqual(again.row(), [])
        for _ in range(60):
            again.redo()
        self.assertEqual(told_by_desk(again), kept)
        with self.assertRaises(NothingToRedo):
            again.redo()

    def test_greatest_scripts(self):
        great = [kind for row, goal in greatest_asked(30) for kind in row]
        picked = random.Random(5)
        for _ in range(30):
            script = [("put", 0, picked.choice(great)) for _ in range(2)]
            for depth in range(4):
                script = [("try", script + [("make", 0, script[0][2])] if depth == 0 else script), ("put", 0, "p")]
            self.assertEqual(script[0][0], "try")
            script = script + [("take", 0), ("undo",), ("redo",), ("put", 0, picked.choice(great)), ("use", 0), ("take", 9)]
            self.assertEqual(end_of("p", script), end_of("p", read_script(script_text(script))))
            self.assertIn(len(script) - 1, needless("p", script))
            self.assertEqual(len(play(Desk("p"), script)), len(script))

    def test_wide_scripts(self):
        script = [("try", [("try", [("try", [("try", [("put", 0, "p")]), ("put", 0, "p")])])])]
        script += [("make", 0, "p")] * 3 + [("try", [("take", 0)] * 4)]
        self.assertEqual(end_of("p", script), (["p", "p"], False))
        self.assertEqual(needless("p", script), [1, 2, 3, 4])

    def test_great_counts(self):
        for place in [0, 9, 10, 10 ** 29, 10 ** 30 - 1]:
            script = [("put", place, "p"), ("take", place), ("try", [("use", place), ("make", place, "p")])]
            self.assertEqual(read_script(script_text(script)), script)
            self.assertEqual(play(Desk("p"), [("take", 10 ** 29)]), [("refused", "InvalidPlace")])

    def test_greatest_texts_of_kinds(self):
        for seed in range(200):
            kind = some_kind(random.Random(seed), 30, ["over", "then", "try", "end"], SIGNS)
            self.assertEqual(read_kind(kind_text(kind)), kind)
        kinds = [some_kind(random.Random(seed), 30, "npq", SIGNS) for seed in range(20)]
        self.assertEqual(read_row(row_text(kinds)), kinds)
        self.assertEqual(read_kinds(kinds_text(kinds)), kinds)

    def test_texts_of_many_signs(self):
        for sign in SIGNS:
            deep = kind_text(deep_kind(sign, 300))
            self.assertEqual(signs_of(read_kind(deep)), 300)
            for line in [deep, deep[:-1], deep + ")", "(" * 4000, ")" * 4000, "p" * 4000, " " * 4000, "(p over " * 500]:
                text = "\n".join([line] * 250)
                for read in [read_kinds, read_kind, read_row, read_script]:
                    if read is read_kinds and line == deep:
                        self.assertEqual(len(read(text)), 250)
                        continue
                    with self.assertRaises(InvalidPaper) as caught:
                        read(text)
                    self.assertIs(caught.exception.value, text)

    def test_scripts_of_many_lines(self):
        line = "put 0 " + kind_text(deep_kind("over", 300))
        for text in ["\n".join([line] * 250), "\n".join(["try"] + [" " + line] * 248 + ["end"])]:
            self.assertEqual(script_text(read_script(text)), text)
        deep = "\n".join([" " * depth + "try" for depth in range(60)] + [" " * depth + "end" for depth in range(59, -1, -1)])
        self.assertEqual(script_text(read_script(deep)), deep)
        self.assertEqual(end_of("p", read_script(deep)), ([], False))
        for text in ["\n".join(["try"] * 250), "\n".join(["end"] * 250), "take " + "9" * 3990 + "\ntake", "take " + "0" * 3990]:
            with self.assertRaises(InvalidPaper):
                read_script(text)


if __name__ == "__main__":
    unittest.main()
