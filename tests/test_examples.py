"""The blocks of examples of the document, as they are written there."""

import unittest

FORMS = """\
from phrasejoins.forms import all_kinds, is_free, is_kind, many_kinds, plains_of, put_for, signs_of, turned
goes = ("under", "n", "s")
sees = ("over", goes, "n")
[is_kind(sees), is_kind(["over", "s", "n"]), signs_of(sees), plains_of(sees), is_free(("then", "s", goes)), turned(sees)]
# [True, False, 2, ['n', 's'], False, ('under', 'n', ('over', 's', 'n'))]
[put_for(goes, {"n": "p", "s": ("over", "p", "q")}), many_kinds(["p", "q"], 2), all_kinds(["p"], 1)]
# [('under', 'p', ('over', 'p', 'q')), 144, [('over', 'p', 'p'), ('then', 'p', 'p'), ('under', 'p', 'p')]]
"""

DERIVATIONS = """\
from phrasejoins.derivations import cut_in, cuts_of, is_derivation, is_derivation_of, knots_of, plain_out, told_by, turned_derivation
goes = ("under", "n", "s")
step = ("under used", 0, ("is", "n"), ("is", "s"))
[told_by(step), told_by(("over made", step)), knots_of(step), is_derivation(("over made", ("is", "n"))), is_derivation_of(["n", goes], "s", step)]
# [(['n', ('under', 'n', 's')], 's'), (['n'], ('over', 's', ('under', 'n', 's'))), 3, False, True]
both = cut_in(("over made", step), ("over used", 0, ("is", goes), ("is", "s")), 0)
[told_by(both), cuts_of(both), told_by(turned_derivation(step)), told_by(plain_out(("is", goes))), knots_of(plain_out(("is", goes)))]
# [(['n', ('under', 'n', 's')], 's'), 1, ([('over', 's', 'n'), 'n'], 's'), ([('under', 'n', 's')], ('under', 'n', 's')), 4]
"""

GIVING = """\
from phrasejoins.giving import bar_of, derivation_of, gives, is_bar, steps_back, waits_for, without_cuts
goes = ("under", "n", "s")
sees = ("over", goes, "n")
raised = ("over", "s", goes)
[gives(["n", sees, "n"], "s"), gives(["n"], raised), gives([raised], "n"), derivation_of(["n", goes], "s"), waits_for(["n"], "s", ["n"])]
# [True, True, False, ('under used', 0, ('is', 'n'), ('is', 's')), ('under', 'n', ('over', 's', 'n'))]
[steps_back(["n", goes], "s"), steps_back(["n"], "s"), is_bar([raised], "n", [([raised], "n")]), bar_of(["n", goes], "s"), is_bar(["n"], "s", [(["n"], "s")])]
# [[[(['n'], 'n'), (['s'], 's')]], [], True, None, True]
"""


class Examples(unittest.TestCase):
    def play(self, block):
        """Carries the lines out; behind each line to be judged stands what it comes to, behind a sharp."""
        lines = block.strip().split("\n")
        known = {}
        judged = 0
        for line, told in zip(lines, lines[1:] + [""]):
            if line.startswith("# "):
                continue
            if told.startswith("# "):
                self.assertEqual(repr(eval(line, known)), told[2:], line)
                judged += 1
            else:
                exec(line, known)
        return judged

    def test_forms(self):
        self.assertEqual(self.play(FORMS), 2)

    def test_derivations(self):
        self.assertEqual(self.play(DERIVATIONS), 2)

    def test_giving(self):
        self.assertEqual(self.play(GIVING), 2)


if __name__ == "__main__":
    unittest.main()
