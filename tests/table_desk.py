"""Every function, and class, of changes, desk, scripts and papers with its parameters, as in the table of all."""

from phrasejoins import changes, desk, papers, scripts
from phrasejoins.errors import (
    InvalidDesk, InvalidKind, InvalidPaper, InvalidRecord, InvalidRow, InvalidScript, InvalidWord,
)
from tests import samples, samples_desk, samples_joins
from tests.samples import GOES, SEES

KIND = ("kind", SEES, InvalidKind, samples.NO_KINDS)
GOAL = ("goal", "s", InvalidKind, samples.NO_KINDS)
DESK = ("desk", samples.DESK, InvalidDesk, samples_desk.NO_DESKS)
SCRIPT = ("script", samples_desk.SCRIPT, InvalidScript, samples_desk.NO_SCRIPTS)
PARTED = ("over", "s", ("then", "n", "p"))
PACKED = ("over", ("over", "s", "p"), "n")

FUNCTIONS = [
    (changes.raising, [KIND, GOAL, ("word", "over", InvalidWord, [
        wrong for wrong in samples_joins.NO_SIGNS] + ["then", "s", "underover"])]),
    (changes.composing, [
        ("one", ("over", "s", "n"), InvalidKind, samples.NO_KINDS),
        ("other", ("over", "n", "p"), InvalidKind, samples.NO_KINDS),
    ]),
    (changes.dividing, [KIND, ("divisor", "p", InvalidKind, samples.NO_KINDS)]),
    (changes.swapping, [KIND]),
    (changes.parting, [("kind", PARTED, InvalidKind, samples.NO_KINDS)]),
    (changes.packing, [("kind", PACKED, InvalidKind, samples.NO_KINDS)]),
    (desk.Desk, [GOAL]),
    (desk.replayed, [DESK, ("record", samples_desk.RECORD, InvalidRecord, samples_desk.NO_RECORDS)]),
    (scripts.play, [DESK, SCRIPT]),
    (scripts.end_of, [GOAL, SCRIPT]),
    (scripts.needless, [GOAL, SCRIPT]),
    (scripts.script_text, [SCRIPT]),
    (scripts.read_script, [("text", "put 0 n\ntry\n take 0\nend", InvalidPaper, samples_desk.NO_SCRIPT_TEXTS)]),
    (papers.kind_text, [KIND]),
    (papers.read_kind, [("text", "(s over (n under s))", InvalidPaper, samples_desk.NO_KIND_TEXTS)]),
    (papers.row_text, [("row", ["n", GOES], InvalidRow, samples.NO_ROWS)]),
    (papers.read_row, [("text", "n, (n under s)", InvalidPaper, samples_desk.NO_ROW_TEXTS)]),
    (papers.kinds_text, [("kinds", ["n", GOES], InvalidRow, samples.NO_ROWS)]),
    (papers.read_kinds, [("text", "n\n(n under s)", InvalidPaper, samples_desk.NO_KINDS_TEXTS)]),
]

# The names and parameters, by module, as the document lists them.
INTERFACE = {
    "changes": [
        "raising(kind, goal, word)", "composing(one, other)", "dividing(kind, divisor)", "swapping(kind)",
        "parting(kind)", "packing(kind)",
    ],
    "desk": ["Desk(goal)", "replayed(desk, record)"],
    "scripts": [
        "play(desk, script)", "end_of(goal, script)", "needless(goal, script)", "script_text(script)",
        "read_script(text)",
    ],
    "papers": [
        "kind_text(kind)", "read_kind(text)", "row_text(row)", "read_row(text)", "kinds_text(kinds)",
        "read_kinds(text)",
    ],
}
METHODS = {desk.Desk: [
    "goal()", "row()", "put(place, kind)", "take(place)", "use(place)", "make(place, kind)", "gives()", "derivation()",
    "letters()", "can_give()", "undo()", "redo()", "trial()", "attempt(action)", "copy()", "record()",
]}
