"""Every function, and class that takes arguments, with its parameters.

A parameter has its name, a right argument, the class that is raised, and wrong arguments.
"""

from phrasejoins import derivations, forms, giving, letters, links, readings, worlds
from phrasejoins.errors import (
    InvalidCount, InvalidDerivation, InvalidKind, InvalidLetters, InvalidLots, InvalidMap, InvalidPlace, InvalidPlains,
    InvalidRow, InvalidTable, InvalidTurns, InvalidWorld,
)
from tests import samples

KIND = ("kind", samples.SEES, InvalidKind, samples.NO_KINDS)
GOAL = ("goal", "s", InvalidKind, samples.NO_KINDS)
ROW = ("row", ["n", samples.GOES], InvalidRow, samples.NO_ROWS)
SENT = ("sent", {"n": "p", "s": ("over", "p", "q")}, InvalidMap, samples.NO_MAPS)
PLAINS = ("plains", ["p", "q"], InvalidPlains, samples.NO_PLAINS)
NUMBER = ("number", 1, InvalidCount, samples.NO_COUNTS)
DERIVATION = ("derivation", samples.CUT, InvalidDerivation, samples.NO_DERIVATIONS)
ONE = ("one", samples.MADE, InvalidDerivation, samples.NO_DERIVATIONS)
OTHER = ("other", samples.USED, InvalidDerivation, samples.NO_DERIVATIONS)
PLACE = ("place", 0, InvalidPlace, samples.NO_COUNTS + [2, 3, 10 ** 29])
AHEAD = ("ahead", ["n"], InvalidRow, samples.NO_STRETCHES)
BEHIND = ("behind", ["s"], InvalidRow, samples.NO_STRETCHES)

LETTERS = ("letters", [("n", -1), ("s", 1)], InvalidLetters, samples.NO_LETTERS)
ONE_LETTERS = ("one", [("n", -1), ("s", 1)], InvalidLetters, samples.NO_LETTERS)
OTHER_LETTERS = ("other", [("s", 1), ("n", -1)], InvalidLetters, samples.NO_LETTERS)
ANY_ROW = ("row", ["n", samples.GOES], InvalidRow, samples.NO_STRETCHES)
PLAIN = ("plain", "n", InvalidKind, samples.NO_KINDS + [samples.GOES, ("then", "n", "n")])
TURNS = ("turns", {"n": [1, 2, 0], "s": [1, 0, 2]}, InvalidTurns, samples.NO_TURNS)
# Types with others than the plain types n and s.
FOREIGN = ["p", ("over", "n", "p"), ("under", "p", "s"), ("then", "p", "p"), ("over", samples.SEES, ("over", "s", "t"))]
KNOWN_KIND = ("kind", samples.SEES, InvalidKind, samples.NO_KINDS + FOREIGN)
KNOWN_ROW = ("row", ["n", samples.GOES], InvalidRow, samples.NO_ROWS + [["n", kind] for kind in FOREIGN])
ONE_KIND = ("one", samples.SEES, InvalidKind, samples.NO_KINDS)
OTHER_KIND = ("other", samples.GOES, InvalidKind, samples.NO_KINDS)

WORLD = ("world", samples.WORLD, InvalidWorld, samples.NO_WORLDS)
THING = ("thing", "even", InvalidLots, samples.NO_THINGS)
MANY = ("many", 2, InvalidCount, samples.NO_COUNTS + [0, 3, 4, 10 ** 29])
ALIKE = [["n", "n"], ["s", samples.GOES, "n", samples.GOES], [samples.SEES, samples.SEES]]

FIRST = ("first", 0, InvalidPlace, samples.NO_COUNTS + [2, 3, 10 ** 29])
LAST = ("last", 1, InvalidPlace, samples.NO_COUNTS + [0, 3, 10 ** 29])

# A last parameter called value is judged and has no class that is raised.
JUDGED_KIND = ("value", "n", None, samples.NO_KINDS)
JUDGED_DERIVATION = ("value", samples.STEP, None, samples.NO_DERIVATIONS)
JUDGED_BAR = ("value", [(["n", samples.GOES], "n")], None, [])
JUDGED_LETTERS = ("value", [("n", -1), ("s", 1)], None, samples.NO_LETTERS)
JUDGED_TURNS = ("value", {"n": [1, 0], "s": [0, 1]}, None, samples.NO_TURNS + [
    {"n": [1, 0]}, {"s": [1, 0]}, {"n": [0], "s": [0]}, {"n": [0, 1], "s": [1, 0]}, {"p": [0, 1], "q": [1, 0]},
])
JUDGED_WORLD = ("value", worlds.World(samples.PARITY, {"n": ["odd"], "s": []}), None, samples.NO_WORLDS + [
    samples.WORLD, worlds.World(samples.PARITY, {"n": ["odd"]}), worlds.World(samples.PARITY, {"s": []}),
])
JUDGED_BETWEEN = ("value", ["n", samples.IS_N, samples.STEP], None, samples.NO_DERIVATIONS + [
    ("n", samples.IS_N, samples.STEP), ["n", samples.IS_N], ["n", samples.IS_N, samples.STEP, samples.STEP],
    ["s", samples.IS_N, samples.STEP], ["n", samples.STEP, samples.IS_N], ["n", "n", samples.STEP],
    ["n", samples.IS_N, None], [["n"], samples.IS_N, samples.STEP], [None, None, None], {0: "n", 1: 2, 2: 3},
    ["n", samples.IS_N, list(samples.STEP)], [True, samples.IS_N, samples.STEP],
])

FUNCTIONS = [
    (forms.is_kind, [JUDGED_KIND]),
    (forms.signs_of, [KIND]),
    (forms.plains_of, [KIND]),
    (forms.is_free, [KIND]),
    (forms.turned, [KIND]),
    (forms.put_for, [KIND, SENT]),
    (forms.all_kinds, [PLAINS, NUMBER]),
    (forms.many_kinds, [PLAINS, NUMBER]),
    (derivations.is_derivation, [JUDGED_DERIVATION]),
    (derivations.told_by, [DERIVATION]),
    (derivations.is_derivation_of, [ROW, GOAL, JUDGED_DERIVATION]),
    (derivations.knots_of, [DERIVATION]),
    (derivations.cuts_of, [DERIVATION]),
    (derivations.turned_derivation, [DERIVATION]),
    (derivations.with_put, [DERIVATION, SENT]),
    (derivations.plain_out, [DERIVATION]),
    (derivations.cut_in, [ONE, OTHER, PLACE]),
    (giving.steps_back, [ROW, GOAL]),
    (giving.gives, [ROW, GOAL]),
    (giving.derivation_of, [ROW, GOAL]),
    (giving.bar_of, [ROW, ("goal", "n", InvalidKind, samples.NO_KINDS)]),
    (giving.is_bar, [ROW, ("goal", "n", InvalidKind, samples.NO_KINDS), JUDGED_BAR]),
    (giving.without_cuts, [DERIVATION]),
    (giving.waits_for, [AHEAD, GOAL, BEHIND]),
    (readings.head_of, [KIND]),
    (readings.waits_of, [KIND]),
    (readings.many_readings, [ROW, GOAL]),
    (letters.are_letters, [JUDGED_LETTERS]),
    (letters.letters_of, [KIND]),
    (letters.letters_of_row, [ANY_ROW]),
    (letters.put_letters, [ONE_LETTERS, OTHER_LETTERS]),
    (letters.turned_back, [LETTERS]),
    (letters.may_give, [ROW, GOAL]),
    (letters.are_round, [ONE_LETTERS, OTHER_LETTERS]),
    (letters.plain_form, [LETTERS, PLAIN]),
    (letters.turn_of, [TURNS, KNOWN_KIND]),
    (letters.parting_turns, [ONE_KIND, OTHER_KIND]),
    (letters.are_parting_turns, [ONE_KIND, OTHER_KIND, JUDGED_TURNS]),
    (worlds.World, [
        ("table", samples.PARITY, InvalidTable, samples.NO_TABLES),
        ("lots", samples.PARITY_LOTS, InvalidLots, samples.NO_LOTS),
    ]),
    (worlds.lot_of, [WORLD, KNOWN_KIND]),
    (worlds.lot_of_row, [WORLD, KNOWN_ROW]),
    (worlds.many_ways, [WORLD, KNOWN_ROW, THING]),
    (worlds.holds, [WORLD, KNOWN_ROW, KNOWN_KIND]),
    (worlds.escaping, [WORLD, KNOWN_ROW, KNOWN_KIND]),
    (worlds.parting_world, [ROW, KIND, MANY]),
    (worlds.is_parting_world, [
        ("row", ["n", "n"], InvalidRow, samples.NO_ROWS), ("kind", "s", InvalidKind, samples.NO_KINDS), JUDGED_WORLD,
    ]),
    (worlds.rows_giving, [
        ("kinds", ["n", samples.GOES], InvalidRow, samples.NO_ROWS + ALIKE),
        ("kind", "s", InvalidKind, samples.NO_KINDS),
        ("number", 3, InvalidCount, samples.NO_COUNTS + [0, 4, 5, 10 ** 29]),
    ]),
    (worlds.turned_world, [WORLD]),
    (worlds.all_tables, [MANY]),
    (links.knots_ahead, [ROW, GOAL]),
    (links.links_of, [("derivation", samples.STEP, InvalidDerivation, samples.NO_DERIVATIONS)]),
    (links.between, [ROW, GOAL, FIRST, LAST]),
    (links.is_between, [ROW, GOAL, FIRST, LAST, JUDGED_BETWEEN]),
]
