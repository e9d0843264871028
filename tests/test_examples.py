"""The blocks of examples of the document, as they are written there."""

import unittest

FORMS = """\
from phrasejoins.forms import all_kinds, is_free, is_kind, many_kinds, plains_of, put_for, signs_of, turned
goes = ("under", "n", "s")
sees = ("over", goes, "n")
[is_kind(sees), is_kind(["over", "s", "n"]), signs_of(sees), plains_of(sees), is_free(("then", "s", goes)), turned(sees)]
# [True, False, 2, ['n', 's'], False, ('under', 'n', ('over', 's', 'n'))]
[put_for(goes, {"n": "p", "s": ("over", "p", "q")}), many_kinds(["p", "q"], 2), all_kinds(["p"], 1)]
# [('under', 'p', ('over', 'p', 'q')), 144, [('over', 'p', 'p'), ('then', 'p', 'p'), ('under', 'p', 'p')]]
"""

DERIVATIONS = """\
from phrasejoins.derivations import cut_in, cuts_of, is_derivation, is_derivation_of, knots_of, plain_out, told_by, turned_derivation
goes = ("under", "n", "s")
step = ("under used", 0, ("is", "n"), ("is", "s"))
[told_by(step), told_by(("over made", step)), knots_of(step), is_derivation(("over made", ("is", "n"))), is_derivation_of(["n", goes], "s", step)]
# [(['n', ('under', 'n', 's')], 's'), (['n'], ('over', 's', ('under', 'n', 's'))), 3, False, True]
both = cut_in(("over made", step), ("over used", 0, ("is", goes), ("is", "s")), 0)
[told_by(both), cuts_of(both), told_by(turned_derivation(step)), told_by(plain_out(("is", goes))), knots_of(plain_out(("is", goes)))]
# [(['n', ('under', 'n', 's')], 's'), 1, ([('over', 's', 'n'), 'n'], 's'), ([('under', 'n', 's')], ('under', 'n', 's')), 4]
"""

GIVING = """\
from phrasejoins.giving import bar_of, derivation_of, gives, is_bar, steps_back, waits_for, without_cuts
goes = ("under", "n", "s")
sees = ("over", goes, "n")
raised = ("over", "s", goes)
[gives(["n", sees, "n"], "s"), gives(["n"], raised), gives([raised], "n"), derivation_of(["n", goes], "s"), waits_for(["n"], "s", ["n"])]
# [True, True, False, ('under used', 0, ('is', 'n'), ('is', 's')), ('under', 'n', ('over', 's', 'n'))]
[steps_back(["n", goes], "s"), steps_back(["n"], "s"), is_bar([raised], "n", [([raised], "n")]), bar_of(["n", goes], "s"), is_bar(["n"], "s", [(["n"], "s")])]
# [[[(['n'], 'n'), (['s'], 's')]], [], True, None, True]
"""

READINGS = """\
from phrasejoins.readings import head_of, many_readings, waits_of
goes = ("under", "n", "s")
sees = ("over", goes, "n")
[head_of(sees), waits_of(sees), waits_of(("over", "s", goes))]
# ['s', (['n'], ['n']), ([('under', 'n', 's')], [])]
[many_readings(["n", sees, "n"], "s"), many_readings([("over", "s", "s"), "s", ("under", "s", "s")], "s"), many_readings([("over", "s", "s"), ("over", "s", "s"), "s", ("under", "s", "s")], "s"), many_readings(["n"], "s")]
# [1, 2, 3, 0]
"""

LETTERS = """\
from phrasejoins.letters import are_letters, are_parting_turns, are_round, letters_of, letters_of_row, may_give, parting_turns, plain_form, put_letters, turn_of, turned_back
goes = ("under", "n", "s")
[letters_of(goes), letters_of(("over", "p", ("over", "p", "p"))), letters_of_row(["n", goes]), turned_back([("n", 1), ("s", -1)]), put_letters([("n", 1)], [("n", -1), ("s", 1)])]
# [[('n', -1), ('s', 1)], [('p', 1)], [('s', 1)], [('s', 1), ('n', -1)], [('s', 1)]]
[may_give([goes], "s"), are_round([("n", 1), ("s", 1)], [("s", 1), ("n", 1)]), are_letters([("n", 1), ("n", -1)]), plain_form([("n", -1), ("s", 1)], "n"), turn_of({"n": [1, 2, 0], "s": [1, 0, 2]}, goes)]
# [False, True, False, ('then', ('over', ('over', 'n', 'n'), 'n'), 's'), [2, 1, 0]]
[are_parting_turns("n", "s", {"n": [1, 0], "s": [0, 1]}), are_parting_turns("n", ("over", "s", goes), {"n": [1, 0], "s": [0, 1]}), parting_turns("n", ("over", "s", goes)), are_parting_turns("n", "s", parting_turns("n", "s"))]
# [True, False, None, True]
"""

WORLDS = """\
from phrasejoins.worlds import World, all_tables, escaping, holds, is_parting_world, lot_of, lot_of_row, many_ways, parting_world, rows_giving, turned_world
goes = ("under", "n", "s")
table = {("even", "even"): "even", ("even", "odd"): "odd", ("odd", "even"): "odd", ("odd", "odd"): "even"}
world = World(table, {"n": ["odd"], "s": ["even"]})
[world.things(), world.plains(), lot_of(world, goes), lot_of(world, ("over", "s", goes)), lot_of(world, ("then", "n", "n")), lot_of_row(world, ["n", goes, "n"])]
# [['even', 'odd'], ['n', 's'], ['odd'], ['odd'], ['even'], ['odd']]
[holds(world, ["n", goes], "s"), holds(world, ["n", "n"], "s"), escaping(world, ["n"], "s"), many_ways(world, ["n", "n"], "even"), turned_world(world) == world, len(all_tables(2)), all_tables(1)]
# [True, True, ['odd'], 1, True, 8, [{('a', 'a'): 'a'}]]
late = parting_world(["n", "n"], "s", 1)
[holds(late, ["n", "n"], "s"), len(late.things()), parting_world(["n", goes], "s", 2), is_parting_world(["n", "n"], "s", world), parting_world([goes, "n"], "s", 1) is None, parting_world([goes, "n"], "s", 2) is None]
# [False, 1, None, False, True, False]
rows_giving(["n", goes], "s", 3)
# [['n', ('under', 'n', 's')]]
"""

LINKS = """\
from phrasejoins.derivations import told_by
from phrasejoins.links import between, is_between, knots_ahead, links_of
goes = ("under", "n", "s")
sees = ("over", goes, "n")
step = ("under used", 0, ("is", "n"), ("is", "s"))
[knots_ahead(["n", goes], "s"), knots_ahead(["n"], ("over", "s", goes)), links_of(step), links_of(("over made", step)), knots_ahead(["n", "n"], "s")]
# [3, 4, [(0, 1), (2, 3)], [(0, 1), (2, 3)], None]
[is_between(["n", sees, "n"], "s", 1, 3, between(["n", sees, "n"], "s", 1, 3)), between(["n", "n"], "s", 0, 1), is_between(["n", goes], "s", 0, 1, ["n", ("is", "n"), step])]
# [True, None, True]
"""

BOOKS = r"""
from phrasejoins.books import Book, can_stand, choices, is_let, many_sentences, parting_goal, sentences_of
goes = ("under", "n", "s")
book = Book({"all": [("over", "s", goes)], "ann": ["n"], "run": [goes], "see": [("over", goes, "n"), goes]}, "s")
[is_let(book, ["ann", "see", "ann"]), choices(book, ["ann", "see"]), is_let(book, ["all", "run"]), can_stand(book, "ann", "all"), can_stand(book, "all", "ann"), parting_goal(book, "all", "ann")]
# [True, [['n', ('under', 'n', 's')]], True, True, False, 'n']
[can_stand(book, "see", "run"), parting_goal(book, "run", "see"), [many_sentences(book, number) for number in [1, 2, 3]], sentences_of(book, 2)]
# [True, ('over', ('under', 'n', 's'), 'n'), [0, 4, 2], [['all', 'run'], ['all', 'see'], ['ann', 'run'], ['ann', 'see']]]
"""

CHAINS = r"""
from phrasejoins.chains import are_alike, cancelled_behind, chain_of, form_chain, is_chain, kinds_along, shortened, through_first, through_second
goes = ("under", "n", "s")
back = ("over", "p", ("over", "p", "p"))
step = ("on", ("over made", ("under used", 0, ("is", "n"), ("is", "s"))))
[are_alike("p", back), are_alike("p", "q"), is_chain("n", ("over", "s", goes), [step]), is_chain(("over", "s", goes), "n", [step]), is_chain("n", "n", []), is_chain("p", back, chain_of("p", back)), chain_of("p", "q")]
# [True, False, True, False, True, True, None]
[kinds_along(through_first([step], "then", "q")), kinds_along(through_second([step], "over", "p")), is_chain(goes, ("then", ("over", ("over", "n", "n"), "n"), "s"), form_chain(goes, "n")), shortened([step, ("back", step[1])])]
# [[('then', 'n', 'q'), ('then', ('over', 's', ('under', 'n', 's')), 'q')], [('over', 'p', 'n'), ('over', 'p', ('over', 's', ('under', 'n', 's')))], True, []]
"""

BOUNDS = r"""
from phrasejoins.bounds import above, below, is_above, is_above_paper, is_below, is_below_paper, least_above, lowered, raised
goes = ("under", "n", "s")
raise_n = ("over", "s", goes)
back = ("over", "p", ("over", "p", "p"))
made = ("over made", ("under used", 0, ("is", "n"), ("is", "s")))
[is_above(["n", raise_n], raise_n), is_below(["n", raise_n], "n"), above(["p", "q"]), is_above_paper(["p", back], above(["p", back])), is_below_paper(["p", back], below(["p", back])), least_above(["p", back], ["p"], 2)]
# [True, True, None, True, True, None]
[raised(("is", "n"), made)[0], lowered(made, ("is", raise_n))[0] == ("then", ("then", ("over", "n", raise_n), raise_n), ("under", raise_n, raise_n))]
# [('under', ('over', 'n', 'n'), ('over', 'n', ('under', ('over', 's', ('under', 'n', 's')), 'n'))), True]
"""

JOINS = r"""
from phrasejoins.joins import and_type, can_join, can_join_at, is_joined, is_joined_at, is_why_not_joined, join_classes, joined, joined_at, joining, place_type, why_not_joined
from phrasejoins.derivations import told_by
goes = ("under", "n", "s")
back = ("over", "p", ("over", "p", "p"))
[can_join(["n"], [("over", "s", goes)]), can_join(["n"], ["s"]), joined(["n"], ["s"]), can_join(["p"], [back]), can_join(["n", goes], ["s"]), is_joined(["p"], [back], joined(["p"], [back]))]
# [True, False, None, True, True, True]
[and_type("n"), told_by(joining(["n"], ["n"], "n")), place_type(["n", ("over", goes, "n"), "n"], 1, 3, "s"), place_type(["n", goes], 0, 1, "s")]
# [('over', ('under', 'n', 'n'), 'n'), (['n', ('over', ('under', 'n', 'n'), 'n'), 'n'], 'n'), ('under', 'n', 's'), ('over', 's', ('under', 'n', 's'))]
[can_join_at(["n", goes], 0, 1, [("over", "s", goes)], "s"), can_join_at(["n", goes], 0, 1, ["s"], "s"), is_joined_at(["n", goes], 0, 1, ["n"], "s", joined_at(["n", goes], 0, 1, ["n"], "s"))]
# [True, False, True]
[join_classes([["n"], ["s"], ["n", goes], [("over", "s", goes)]]), why_not_joined(["n", goes], ["s"]), is_why_not_joined(["n"], ["s"], {"n": [0, 1], "s": [1, 0]}), is_why_not_joined(["n"], ["s"], why_not_joined(["n"], ["s"]))]
# [[[0, 3], [1, 2]], None, True, True]
"""

CHANGES = r"""
from phrasejoins.changes import composing, dividing, packing, parting, raising, swapping
from phrasejoins.derivations import told_by
goes = ("under", "n", "s")
[told_by(raising("n", "s", "over")), told_by(raising("n", "s", "under")), told_by(composing(("over", "s", "n"), ("over", "n", "p")))]
# [(['n'], ('over', 's', ('under', 'n', 's'))), (['n'], ('under', ('over', 's', 'n'), 's')), ([('over', 's', 'n'), ('over', 'n', 'p')], ('over', 's', 'p'))]
[told_by(dividing(("over", "s", "n"), "p")), told_by(swapping(("over", goes, "n"))), told_by(parting(("over", "s", ("then", "n", "p")))), told_by(packing(("over", ("over", "s", "p"), "n")))]
# [([('over', 's', 'n')], ('over', ('over', 's', 'p'), ('over', 'n', 'p'))), ([('over', ('under', 'n', 's'), 'n')], ('under', 'n', ('over', 's', 'n'))), ([('over', 's', ('then', 'n', 'p'))], ('over', ('over', 's', 'p'), 'n')), ([('over', ('over', 's', 'p'), 'n')], ('over', 's', ('then', 'n', 'p')))]
"""

DESK = r"""
from phrasejoins.desk import Desk, replayed
desk = Desk("s")
goes = ("under", "n", "s")
[desk.put(0, goes), desk.can_give(), desk.put(0, "n"), desk.row(), desk.gives(), desk.letters()]
# [None, False, None, ['n', ('under', 'n', 's')], True, [('s', 1)]]
[desk.make(0, ("over", "s", goes)), desk.gives(), desk.use(0), desk.row(), desk.record()[2:], desk.undo(), desk.row()[0]]
# [None, True, None, ['s'], [('make', 0, ('over', 's', ('under', 'n', 's'))), ('use', 0)], None, ('over', 's', ('under', 'n', 's'))]
[replayed(desk, [("take", 1)]).row(), desk.attempt(lambda inner: [inner.take(0), inner.gives()]), desk.gives()]
# [[('over', 's', ('under', 'n', 's'))], [('over', 's', ('under', 'n', 's')), False], True]
"""

SCRIPTS = r"""
from phrasejoins.desk import Desk
from phrasejoins.scripts import end_of, needless, play, read_script, script_text
goes = ("under", "n", "s")
script = [("put", 0, "n"), ("put", 1, goes), ("try", [("use", 0), ("take", 4)]), ("use", 0), ("undo",)]
play(Desk("s"), script)
# [('told', None), ('told', None), ('tried', [('told', None), ('refused', 'InvalidPlace')]), ('told', None), ('told', None)]
[end_of("s", script), needless("s", script), read_script(script_text(script)) == script, play(Desk("s"), [("undo",), ("make", 0, "n")])]
# [(['n', ('under', 'n', 's')], True), [2], True, [('refused', 'NothingToUndo'), ('refused', 'InvalidPlace')]]
"""

PAPERS = r"""
from phrasejoins.papers import kind_text, kinds_text, read_kind, read_kinds, read_row, row_text
goes = ("under", "n", "s")
[kind_text(("over", goes, "n")), read_kind("(s over (n under s))"), row_text(["n", goes]), read_row("n, (n then s)"), kinds_text(["n", goes]), read_kinds("p")]
# ['((n under s) over n)', ('over', 's', ('under', 'n', 's')), 'n, (n under s)', ['n', ('then', 'n', 's')], 'n\n(n under s)', ['p']]
"""


class Examples(unittest.TestCase):
    def play(self, block):
        """Carries the lines out; behind each line to be judged stands what it comes to, behind a sharp."""
        lines = block.strip().split("\n")
        known = {}
        judged = 0
        for line, told in zip(lines, lines[1:] + [""]):
            if line.startswith("# "):
                continue
            if told.startswith("# "):
                self.assertEqual(repr(eval(line, known)), told[2:], line)
                judged += 1
            else:
                exec(line, known)
        return judged

    def test_forms(self):
        self.assertEqual(self.play(FORMS), 2)

    def test_derivations(self):
        self.assertEqual(self.play(DERIVATIONS), 2)

    def test_giving(self):
        self.assertEqual(self.play(GIVING), 2)

    def test_readings(self):
        self.assertEqual(self.play(READINGS), 2)

    def test_letters(self):
        self.assertEqual(self.play(LETTERS), 3)

    def test_worlds(self):
        self.assertEqual(self.play(WORLDS), 4)

    def test_links(self):
        self.assertEqual(self.play(LINKS), 2)

    def test_books(self):
        self.assertEqual(self.play(BOOKS), 2)

    def test_chains(self):
        self.assertEqual(self.play(CHAINS), 2)

    def test_bounds(self):
        self.assertEqual(self.play(BOUNDS), 2)

    def test_joins(self):
        self.assertEqual(self.play(JOINS), 4)

    def test_changes(self):
        self.assertEqual(self.play(CHANGES), 2)

    def test_desk(self):
        self.assertEqual(self.play(DESK), 3)

    def test_scripts(self):
        self.assertEqual(self.play(SCRIPTS), 2)

    def test_papers(self):
        self.assertEqual(self.play(PAPERS), 1)


if __name__ == "__main__":
    unittest.main()
