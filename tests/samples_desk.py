"""Right and wrong values for desks, scripts and texts."""

from phrasejoins.desk import Desk
from tests.samples import DESK, GOES, NO_KINDS, OBJECTS, SEES, objects_but

RECORD = [("put", 0, GOES), ("put", 0, "n"), ("make", 1, GOES), ("use", 0), ("take", 0)]
SCRIPT = [("put", 0, "n"), ("try", [("put", 1, GOES), ("try", [("use", 0)])]), ("undo",), ("redo",)]

# Each in the place of a command, in records as well as in scripts.
NO_DEEDS = [
    None, True, 0, "", "put", "undo", "take 0", [], (), {}, ["put", 0, "n"], ["take", 0], ["undo"], ("put",), ("put", 0),
    ("put", 0, "n", "n"), ("put", "n", 0), ("put", -1, "n"), ("put", True, "n"), ("put", False, "n"), ("put", None, "n"),
    ("put", "0", "n"), ("put", [0], "n"), ("put", 0, "N"), ("put", 0, None), ("put", 0, ["n"]), ("put", 0, list(GOES)),
    ("put", 0, ("over", "n")), ("put", 0, 1), ("make",), ("make", 0), ("make", 0, "n", "n"), ("make", False, "n"),
    ("make", -1, "n"), ("make", 0, ""), ("make", 0, ["n"]), ("take",), ("take", 0, 0), ("take", 0, "n"), ("take", -1),
    ("take", True), ("take", False), ("take", None), ("take", "0"), ("use",), ("use", 0, "n"), ("use", -1), ("use", False),
    ("use", "0"), ("use", (0,)), ("Put", 0, "n"), ("puts", 0, "n"), ("", 0), ("gives",), ("record",), ("none", 0),
    (None, 0, "n"), (True, 0), (0, "put", "n"), (["put"], 0, "n"), (("put",), 0, "n"), ("undo", 0), ("redo", 0), ("undo", None),
    ("undo", "redo"), ("Undo",), (["undo"],), ("put", 0, "n", None), {0: "take", 1: 0}, ("end",), ("try",), GOES, ("n",),
] + [("put", 0, wrong) for wrong in NO_KINDS[:30]] + [("take", thing) for thing in OBJECTS]

NOT_LISTS = [
    None, True, False, 0, 1, "", "put 0 n", "[]", (), tuple(RECORD), {}, {0: RECORD[0]}, RECORD[0], ("undo",), GOES,
] + OBJECTS

# As records neither try nor undo nor redo is a command.
NO_RECORDS = NOT_LISTS + [[deed] for deed in NO_DEEDS] + [RECORD + [deed] for deed in NO_DEEDS[:20]] + [
    [("undo",)], [("redo",)], [("try", [])], RECORD + [("undo",)], RECORD + [("try", [("take", 0)])], [RECORD], OBJECTS,
]

NO_TRIES = [
    ("try", None), ("try", ()), ("try", ("take", 0)), ("try", [], []), ("try", {}), ("try", [("undo",)]),
    ("try", [("redo",)]), ("try", [("take", 0), ("undo",)]), ("try", [("try", [("redo",)])]), ["try", []], ("try", [None]),
    ("try", [("take", True)]), ("try", [("try", [("take",)])]), ("try", [("try", ())]), ("Try", []), ("try", ""), (True, []),
    ("try", [[]]), ("try", [("take", 0)], 1), ("try", 0), ("try", DESK), ("try", [("try",)]), (["try"], []),
]
NO_SCRIPTS = NOT_LISTS + [[deed] for deed in NO_DEEDS + NO_TRIES] + [SCRIPT + [deed] for deed in NO_DEEDS[:9] + NO_TRIES] + [
    [("try", [deed])] for deed in NO_DEEDS + NO_TRIES] + [[SCRIPT], OBJECTS]

NO_DESKS = [
    None, True, False, 0, 1, "", "desk", "s", [], (), {}, ["n"], [DESK], (DESK,), {"desk": DESK}, Desk, GOES,
    ("s", ["n"]),
] + objects_but(Desk)

NOT_STRINGS = [None, True, False, 0, 7, [], ["n"], (), ("n",), {}, {"n": "s"}, GOES, SEES, SCRIPT, RECORD] + OBJECTS
NO_KIND_TEXTS = NOT_STRINGS + ["", "N", " n", "n ", "(n under s", "(n  under s)", "n\n", "\tn", "n, s", "n\ns"]
NO_ROW_TEXTS = NOT_STRINGS + ["", "N", " n", "n,s", "n, ", ", n", "n  s", "n\ns", "n,  s", "n, (n under s"]
NO_KINDS_TEXTS = NOT_STRINGS + ["", "N", " n", "n, s", "n\n", "\nn", "n\n\ns", "n\n(n under s", "n\r\ns"]
NO_SCRIPT_TEXTS = NOT_STRINGS + [
    "take", "take 00", "take -1", "take 0 ", " take 0", "take  0", "take 0\n", "\ntake 0", "Take 0", "put 0", "put 0 N",
    "put n 0", "use 0 n", "make 0", "try", "end", "try\nend\nend", "try\ntake 0\nend", "try\n  take 0\nend", "try\n undo\nend",
]
