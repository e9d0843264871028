"""Right and wrong values for books, chains, bounds and joins."""

from phrasejoins.books import Book
from tests.samples import (
    BOOK, GOES, IS_N, MADE, NO_DERIVATIONS, NO_ROWS, OBJECTS, PAIR, PARITY, RAISED, SEES, STEP, objects_but,
)

WORDS = {"all": [RAISED], "ann": ["n"], "run": [GOES], "see": [SEES, GOES]}
THEN_KIND = ("then", "n", "n")

NO_WORDS = [
    None, True, False, 0, "", "n", "ann", [], ["n"], (), ("ann", ["n"]), [("ann", ["n"])], {}, {"ann": []},
    {"ann": None}, {"ann": "n"}, {"ann": ("n",)}, {"ann": GOES}, {"ann": {"n": True}}, {"ann": {}}, {"ann": [[]]},
    {"ann": [None]}, {"ann": [True]}, {"ann": ["n", 1]}, {"ann": ["N"]}, {"ann": [["n"]]}, {"ann": ["n", "n"]},
    {"ann": [GOES, "n", ("under", "n", "s")]}, {"ann": [THEN_KIND]}, {"ann": ["n", ("over", "n", THEN_KIND)]},
    {"ann": [("under", ("over", THEN_KIND, "n"), "n")]}, {"Ann": ["n"]}, {"": ["n"]}, {1: ["n"]}, {None: ["n"]},
    {True: ["n"]}, {("ann",): ["n"]}, {"ninechars": ["n"]}, {"ann": ["n"], 1: ["n"]}, {"ann": ["n"], "run": []},
    {"ann": ["n"], "run": [["over", "s", "n"]]}, {"ann": ["n"], "an n": ["n"]}, {"ann": [BOOK]}, WORDS["ann"],
] + OBJECTS

NO_GOALS = [THEN_KIND, ("over", THEN_KIND, "n"), ("under", "n", ("over", "n", ("then", "n", "s")))]

NO_BOOKS = [
    None, True, False, 0, 1, "", "ann", "book", [], (), {}, WORDS, (WORDS, "s"), [WORDS, "s"], [BOOK], (BOOK,),
    {"book": BOOK}, Book, PARITY,
] + objects_but(Book)

NO_OWN_WORDS = [
    None, True, False, 0, 1, "", "none", "Ann", "ann ", "n", "s", [], ["ann"], (), ("ann",), {}, {"ann": ["n"]}, GOES,
    ("ann", "run"),
] + OBJECTS

NO_SENTENCES = [
    None, True, False, 0, 1, "", "ann", "ann run", [], (), ("ann",), ("ann", "run"), {}, {"ann": True}, {0: "ann"},
    ["none"], ["ann", "none"], ["Ann"], ["ann", ""], ["ann", None], [True], [0], ["ann", 1], [["ann"]], [("ann",)],
    [{}], ["ann", GOES], [[]], ["ann run"], [BOOK],
] + OBJECTS

CHAIN = [("on", MADE)]

NO_CHAINS = [
    [], None, True, False, 0, 1, "", "on", "n", (), tuple(CHAIN), {}, {0: CHAIN[0]}, CHAIN[0], MADE, [[]], [()], [None],
    ["on"], ["on", MADE], [MADE], [("on",)], [(MADE,)], [["on", MADE]], [("on", MADE, MADE)], [("on", STEP)],
    [("back", STEP)], [("On", MADE)], [("", MADE)], [("over", MADE)], [("onback", MADE)], [("o", MADE)], [(True, MADE)],
    [(1, MADE)], [(None, MADE)], [(["on"], MADE)], [(("on",), MADE)], [("on", list(MADE))], [("on", None)],
    [("on", "n")], [("on", "is")], [("on", GOES)], [("on", ("over made", IS_N))], [("on", ("is", ["n"]))], [(MADE, "on")],
    [("on", MADE), ("on", MADE)], [("back", MADE), ("back", MADE)], [("on", MADE), None], [("on", MADE), ("on", STEP)],
    [("on", MADE), ["back", MADE]], [("on", MADE), ("back", IS_N)], [("on", IS_N), ("back", MADE)], [{"on": MADE}],
    [("on", {})], [BOOK], [("on", BOOK)], [("on", MADE), ("back", MADE), ("back", MADE)],
] + [[("on", wrong)] for wrong in NO_DERIVATIONS] + OBJECTS

NO_SIGNS = [
    None, True, False, 0, 1, "", "Over", "over ", "on", "is", "n", "overunder", "over made", [], ["over"], (),
    ("over",), {}, {"over": 1}, GOES, MADE,
] + OBJECTS

NO_LISTS_OF_ROWS = [
    None, True, 0, "", "n", [], (), (["n"],), {}, {0: ["n"]}, ["n"], [GOES], [("n",)], [[]], [["n"], []], [[], ["n"]],
    [["n"], None], [["n"], True], [["n"], "s"], [["n"], ("s",)], [["n"], ["s", 1]], [["n"], [["s"]]], [[["n"]]], [{}],
    [["n"], {0: "s"}], [["n", ["over", "n", "s"]]], [["n"], BOOK],
] + [[["n"], wrong] for wrong in NO_ROWS] + OBJECTS

# Alike to PAIR, which gives s.
ALIKE = ["s", PAIR]
