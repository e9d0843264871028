"""Every function, and class, of books, chains, bounds and joins with its parameters, as in the table of all."""

from phrasejoins import bounds, books, chains, joins
from phrasejoins.errors import (
    InvalidBook, InvalidChain, InvalidCount, InvalidDerivation, InvalidKind, InvalidPlace, InvalidPlains, InvalidRow,
    InvalidSentence, InvalidWord,
)
from tests import samples, samples_joins
from tests.samples import GOES, IS_N, IS_S, MADE, RAISED, SEES, STEP, UNPACKED, USED

BOOK = ("book", samples.BOOK, InvalidBook, samples_joins.NO_BOOKS)
SENTENCE = ("sentence", ["ann", "see"], InvalidSentence, samples_joins.NO_SENTENCES)
WORD = ("word", "ann", InvalidSentence, samples_joins.NO_OWN_WORDS)
OTHER_WORD = ("other", "all", InvalidSentence, samples_joins.NO_OWN_WORDS)
NUMBER = ("number", 2, InvalidCount, samples.NO_COUNTS + [0, 5, 6, 10 ** 29])

CHAIN = ("chain", samples_joins.CHAIN, InvalidChain, samples_joins.NO_CHAINS)
SIGN = ("word", "over", InvalidWord, samples_joins.NO_SIGNS)
ONE_KIND = ("one", "n", InvalidKind, samples.NO_KINDS)
OTHER_KIND = ("other", RAISED, InvalidKind, samples.NO_KINDS)
KIND = ("kind", SEES, InvalidKind, samples.NO_KINDS)
# From n and s, and from s and n ahead, to these with n raised.
BEHIND = [("on", ("then used", 0, ("then made", MADE, IS_S)))]
AHEAD = [("on", ("then used", 0, ("then made", IS_S, MADE)))]
RING = samples_joins.CHAIN + [("back", MADE), ("on", MADE)]

KINDS = ("kinds", ["n", RAISED], InvalidRow, samples.NO_ROWS)
FIRST = ("first", IS_N, InvalidDerivation, samples.NO_DERIVATIONS)
SECOND = ("second", MADE, InvalidDerivation, samples.NO_DERIVATIONS)
HIGH = ("first", MADE, InvalidDerivation, samples.NO_DERIVATIONS)
HIGH_TOO = ("second", ("is", RAISED), InvalidDerivation, samples.NO_DERIVATIONS)
PLAINS = ("plains", ["n", "s"], InvalidPlains, samples.NO_PLAINS)

ONE = ("one", ["n", GOES], InvalidRow, samples.NO_ROWS)
OTHER = ("other", ["s"], InvalidRow, samples.NO_ROWS)
ROW = ("row", ["n", GOES], InvalidRow, samples.NO_ROWS)
FROM = ("first", 0, InvalidPlace, samples.NO_COUNTS + [2, 3, 10 ** 29])
UP_TO = ("last", 1, InvalidPlace, samples.NO_COUNTS + [0, 3, 10 ** 29])
GOAL = ("goal", "s", InvalidKind, samples.NO_KINDS)
PLACED = ("other", ["n"], InvalidRow, samples.NO_ROWS)

# What is judged, each with bent ones.
JUDGED_CHAIN = ("value", samples_joins.CHAIN, None, samples_joins.NO_CHAINS + [
    [("back", MADE)], [("on", IS_N)], [("on", MADE), ("back", MADE)], [("on", ("is", RAISED))],
])
JUDGED_SHORT = ("value", samples_joins.CHAIN, None, samples_joins.NO_CHAINS + [
    RING, [("back", MADE)], [("on", IS_N), ("on", MADE)], [("on", MADE), ("back", ("is", RAISED))], [("on", IS_N)],
])
JUDGED_ABOVE = ("value", RAISED, None, samples.NO_KINDS + ["n", "s", GOES, ("under", ("over", "s", "n"), GOES)])
JUDGED_BELOW = ("value", "n", None, samples.NO_KINDS + [RAISED, "s", GOES, ("under", ("over", "s", "n"), GOES)])
RAISED_PAPER = [RAISED, MADE, ("is", RAISED)]
LOWER_PAPER = ["n", IS_N, MADE]
BENT_PAPERS = samples.NO_DERIVATIONS + [
    tuple(RAISED_PAPER), tuple(LOWER_PAPER), RAISED_PAPER[:2], LOWER_PAPER[:2], RAISED_PAPER + [MADE],
    LOWER_PAPER + [MADE], [RAISED, ("is", RAISED), MADE], ["n", MADE, IS_N], ["n", MADE, ("is", RAISED)],
    [RAISED, IS_N, MADE], [RAISED, list(MADE), ("is", RAISED)], ["n", list(IS_N), MADE], [None, None, None],
    [[RAISED], MADE, ("is", RAISED)], [list(RAISED), MADE, ("is", RAISED)], ["n", IS_N, None], ["N", IS_N, MADE],
    dict(enumerate(RAISED_PAPER)), dict(enumerate(LOWER_PAPER)), [RAISED, MADE, STEP], ["n", STEP, MADE], [], [True],
    [MADE, ("is", RAISED), RAISED], [RAISED, [MADE, ("is", RAISED)]], ["n", [IS_N, MADE]],
]
JUDGED_JOINED = ("value", ("s", STEP, IS_S), None, samples.NO_DERIVATIONS + [
    ["s", STEP, IS_S], ("s", STEP), ("s", STEP, IS_S, IS_S), ("s", IS_S, STEP), ("n", STEP, IS_S), (STEP, IS_S, "s"),
    ("s", list(STEP), IS_S), ("s", STEP, list(IS_S)), (["s"], STEP, IS_S), ("s", STEP, None), ("S", STEP, IS_S),
    (True, STEP, IS_S), ("s", UNPACKED, IS_S), (None, None, None), {0: "s", 1: STEP, 2: IS_S}, ("s", "s", "s"),
])
JUDGED_PLACED = ("value", ("n", IS_N, IS_N, STEP), None, samples.NO_DERIVATIONS + [
    ["n", IS_N, IS_N, STEP], ("n", IS_N, IS_N), ("n", IS_N, IS_N, STEP, STEP), ("s", IS_N, IS_N, STEP),
    ("n", STEP, IS_N, IS_N), ("n", IS_N, IS_N, IS_S), ("n", IS_N, IS_S, STEP), ("n", IS_S, IS_N, STEP),
    ("n", IS_N, IS_N, list(STEP)), ("n", list(IS_N), IS_N, STEP), (["n"], IS_N, IS_N, STEP), ("n", IS_N, IS_N, None),
    (True, IS_N, IS_N, STEP), (RAISED, IS_N, MADE, USED), (RAISED, MADE, IS_N, USED), (None, None, None, None),
    (RAISED, MADE, MADE, STEP), ("n", IS_N, IS_N, USED),
])
JUDGED_WHY = ("value", {"n": [1, 0], "s": [0, 1]}, None, samples.NO_TURNS + [
    {"n": [1, 0]}, {"s": [1, 0]}, {"n": [0], "s": [0]}, {"n": [1, 0], "s": [1, 0]}, {"p": [0, 1], "q": [1, 0]},
])

FUNCTIONS = [
    (books.Book, [
        ("words", samples_joins.WORDS, InvalidBook, samples_joins.NO_WORDS),
        ("goal", "s", InvalidKind, samples.NO_KINDS + samples_joins.NO_GOALS),
    ]),
    (books.is_let, [BOOK, SENTENCE]),
    (books.choices, [BOOK, SENTENCE]),
    (books.can_stand, [BOOK, WORD, OTHER_WORD]),
    (books.parting_goal, [BOOK, WORD, OTHER_WORD]),
    (books.many_sentences, [BOOK, NUMBER]),
    (books.sentences_of, [BOOK, NUMBER]),
    (chains.is_chain, [ONE_KIND, OTHER_KIND, JUDGED_CHAIN]),
    (chains.are_alike, [ONE_KIND, OTHER_KIND]),
    (chains.chain_of, [ONE_KIND, OTHER_KIND]),
    (chains.kinds_along, [CHAIN]),
    (chains.through_first, [CHAIN, SIGN, KIND]),
    (chains.through_second, [CHAIN, SIGN, KIND]),
    (chains.cancelled_behind, [("chain", BEHIND, InvalidChain, samples_joins.NO_CHAINS)]),
    (chains.cancelled_ahead, [("chain", AHEAD, InvalidChain, samples_joins.NO_CHAINS)]),
    (chains.shortened, [("chain", RING, InvalidChain, samples_joins.NO_CHAINS)]),
    (chains.is_shortened, [("chain", RING, InvalidChain, samples_joins.NO_CHAINS), JUDGED_SHORT]),
    (chains.form_chain, [
        KIND, ("plain", "n", InvalidKind, samples.NO_KINDS + [GOES, ("then", "n", "n")]),
    ]),
    (bounds.is_above, [KINDS, JUDGED_ABOVE]),
    (bounds.is_below, [KINDS, JUDGED_BELOW]),
    (bounds.raised, [FIRST, SECOND]),
    (bounds.lowered, [HIGH, HIGH_TOO]),
    (bounds.above, [KINDS]),
    (bounds.is_above_paper, [KINDS, ("value", RAISED_PAPER, None, BENT_PAPERS + [LOWER_PAPER])]),
    (bounds.below, [KINDS]),
    (bounds.is_below_paper, [KINDS, ("value", LOWER_PAPER, None, BENT_PAPERS + [RAISED_PAPER])]),
    (bounds.least_above, [KINDS, PLAINS, ("number", 1, InvalidCount, samples.NO_COUNTS)]),
    (joins.can_join, [ONE, OTHER]),
    (joins.joined, [ONE, OTHER]),
    (joins.is_joined, [ONE, OTHER, JUDGED_JOINED]),
    (joins.and_type, [KIND]),
    (joins.joining, [ONE, OTHER, ("kind", "s", InvalidKind, samples.NO_KINDS)]),
    (joins.place_type, [ROW, FROM, UP_TO, GOAL]),
    (joins.can_join_at, [ROW, FROM, UP_TO, PLACED, GOAL]),
    (joins.joined_at, [ROW, FROM, UP_TO, PLACED, GOAL]),
    (joins.is_joined_at, [ROW, FROM, UP_TO, PLACED, GOAL, JUDGED_PLACED]),
    (joins.join_classes, [("rows", [["n"], ["s"], ["n", GOES]], InvalidRow, samples_joins.NO_LISTS_OF_ROWS)]),
    (joins.why_not_joined, [("one", ["n"], InvalidRow, samples.NO_ROWS), OTHER]),
    (joins.is_why_not_joined, [("one", ["n"], InvalidRow, samples.NO_ROWS), OTHER, JUDGED_WHY]),
]

# The names and parameters, by module, as the document lists them.
INTERFACE = {
    "books": [
        "Book(words, goal)", "is_let(book, sentence)", "choices(book, sentence)", "can_stand(book, word, other)",
        "parting_goal(book, word, other)", "many_sentences(book, number)", "sentences_of(book, number)",
    ],
    "chains": [
        "is_chain(one, other, value)", "are_alike(one, other)", "chain_of(one, other)", "kinds_along(chain)",
        "through_first(chain, word, kind)", "through_second(chain, word, kind)", "cancelled_behind(chain)",
        "cancelled_ahead(chain)", "shortened(chain)", "is_shortened(chain, value)", "form_chain(kind, plain)",
    ],
    "bounds": [
        "is_above(kinds, value)", "is_below(kinds, value)", "raised(first, second)", "lowered(first, second)",
        "above(kinds)", "is_above_paper(kinds, value)", "below(kinds)", "is_below_paper(kinds, value)",
        "least_above(kinds, plains, number)",
    ],
    "joins": [
        "can_join(one, other)", "joined(one, other)", "is_joined(one, other, value)", "and_type(kind)",
        "joining(one, other, kind)", "place_type(row, first, last, goal)",
        "can_join_at(row, first, last, other, goal)", "joined_at(row, first, last, other, goal)",
        "is_joined_at(row, first, last, other, goal, value)", "join_classes(rows)", "why_not_joined(one, other)",
        "is_why_not_joined(one, other, value)",
    ],
}
METHODS = {books.Book: ["words()", "goal()", "__eq__(other)"]}
