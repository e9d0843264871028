"""Values that the tests share: right ones, wrong ones, and slow ways to judge results by."""

from phrasejoins.errors import InvalidKind, PhraseError, Refused
from phrasejoins.pool import Pool

GOES = ("under", "n", "s")
SEES = ("over", GOES, "n")
RAISED = ("over", "s", GOES)
PAIR = ("then", "n", GOES)
IS_N = ("is", "n")
IS_S = ("is", "s")
STEP = ("under used", 0, IS_N, IS_S)
MADE = ("over made", STEP)
USED = ("over used", 0, ("is", GOES), IS_S)
CUT = ("cut", 0, MADE, USED)
THEN = ("then made", IS_N, ("is", GOES))
UNPACKED = ("then used", 0, STEP)

# Each with the row and the goal that it tells.
DERIVATIONS = [
    (IS_N, ["n"], "n"),
    (("is", SEES), [SEES], SEES),
    (STEP, ["n", GOES], "s"),
    (MADE, ["n"], RAISED),
    (("under made", STEP), [GOES], GOES),
    (USED, [RAISED, GOES], "s"),
    (THEN, ["n", GOES], PAIR),
    (UNPACKED, [PAIR], "s"),
    (("then used", 0, THEN), [PAIR], PAIR),
    (CUT, ["n", GOES], "s"),
    (("cut", 0, CUT, IS_S), ["n", GOES], "s"),
    (("cut", 1, ("is", GOES), CUT), ["n", GOES], "s"),
    (("cut", 0, ("cut", 0, IS_N, IS_N), CUT), ["n", GOES], "s"),
    (("cut", 0, THEN, UNPACKED), ["n", GOES], "s"),
    (("over used", 1, IS_N, STEP), ["n", SEES, "n"], "s"),
    (("under used", 1, IS_N, THEN), ["n", "n", ("under", "n", GOES)], PAIR),
    (("then used", 1, ("over used", 1, IS_N, STEP)), ["n", ("then", SEES, "n")], "s"),
]

# Fresh ones of classes of the package, of no use as any argument.
OBJECTS = [PhraseError(), InvalidKind("n"), Refused(), Pool()]

NO_KINDS = [
    None, True, False, 0, 1, -1, 10 ** 29, "", "N", "n1", "ninechars", "two words", "n\n", "\tn", "n ", "n~",
    [], ["n"], (), ("n",), ("over",), ("over", "n"), ["over", "n", "s"], ("over", "n", "s", "s"),
    ("beside", "n", "s"), ("Over", "n", "s"), ("over made", "n", "s"), ("over", "n", None), ("over", True, "s"),
    ("under", ["n"], "s"), ("under", "n", ["over", "n", "s"]), ("then", "n", ("under", "s")), ("then", "", "n"),
    (1, "n", "s"), (True, "n", "s"), (None, "n", "s"), (["over"], "n", "s"), (("over",), "n", "s"),
    ("n", "over", "s"), ("is", "n"), {}, {"n": "s"}, {0: "over", 1: "n", 2: "s"}, {("over", "n", "s"): True},
] + OBJECTS

NO_STRETCHES = [
    None, True, False, 0, 5, "n", "", (), ("n",), ("n", "s"), ("over", "n", "s"), {}, {"n": "s"}, {0: "n"},
    [[]], [["n"]], ["n", 1], [True], ["n", None], ["N"], [""], [("n",)], ["n", ["over", "s", "n"]],
    [("over", "n", ["s"])], [("n", "s")], [{}], [Pool()],
] + OBJECTS

NO_ROWS = [[]] + NO_STRETCHES

NO_COUNTS = [
    None, True, False, -1, -10 ** 29, "1", "", "one", [], [1], (), (1,), {}, {1: 1}, {0: 0}, ("over", "n", "s"),
] + OBJECTS

NO_PLAINS = [
    None, True, 3, "p", "pq", (), ("p",), ("p", "q"), [], ["q", "p"], ["p", "p"], ["p", 1], [True], ["P"],
    ["p", "p1"], ["p", ""], ["p", "ninechars"], [("over", "p", "q")], [["p"]], ["p", None], {}, {"p": "q"},
] + OBJECTS

# Of n and s.
NO_MAPS = [
    None, True, 0, "ns", "", [], ["n", "s"], [("n", "p"), ("s", "q")], (), (("n", "p"), ("s", "q")), {}, {"n": "p"},
    {"n": "p", "t": "q"}, {"n": "p", "s": "q", "t": "p"}, {"n": "p", "s": 1}, {"n": "p", "s": None},
    {"n": True, "s": "q"}, {"n": "p", "s": ["over", "p", "q"]}, {"n": "p", 1: "q"}, {"n": "p", ("s",): "q"},
    {"n": "p", "s": "Q"}, {"n": "p", "s": "q", None: "p"}, {"n": "p", "s": {}}, {True: "p", False: "q"},
] + OBJECTS

NO_DERIVATIONS = [
    None, True, False, 0, 7, "", "is", "n", (), [], {}, {"is": "n"}, {0: "is", 1: "n"}, ("is",), ("is", "n", "s"),
    ["is", "n"], ("is", ["n"]), ("is", 1), ("is", True), ("is", None), ("is", ""), ("is", ("over", "n")), ("Is", "n"),
    ("are", "n"), (1, "n"), (None, IS_N), (["is"], "n"), GOES, ("over", IS_N, IS_N),
    ("over made",), ("over made", IS_N), ("over made", "n"), ("over made", STEP, STEP), ["over made", STEP],
    ("over made", 0, STEP), ("over made", list(STEP)), ("over made", None), ("under made",), ("under made", IS_N),
    ("under made", STEP, STEP), ("under made", 0, STEP), ("over made", MADE), ("under made", MADE),
    ("then made", IS_N), ("then made", IS_N, "n"), ("then made", 0, IS_N, IS_N), ["then made", IS_N, IS_N],
    ("then made", IS_N, IS_N, IS_N), ("then made", IS_N, None),
    ("over used", IS_N, IS_S), ("over used", 1, IS_N, IS_S), ("over used", -1, IS_N, IS_S),
    ("over used", True, IS_N, STEP), ("over used", False, IS_N, IS_S), ("over used", None, IS_N, IS_S),
    ("over used", "0", IS_N, IS_S), ("over used", [0], IS_N, IS_S), ("over used", 0, IS_N),
    ("over used", 0, IS_N, IS_S, IS_S), ["over used", 0, IS_N, IS_S], ("over used", 10 ** 29, IS_N, IS_S),
    ("under used", 1, IS_N, IS_S), ("under used", -1, IS_N, IS_S), ("under used", False, IS_N, IS_S),
    ("under used", True, IS_N, STEP), ("under used", 0, IS_N), ("under used", 0, "n", IS_S),
    ("under used", 0, IS_N, "s"), ["under used", 0, IS_N, IS_S], ("under used", 2, IS_N, STEP),
    ("then used", 0, IS_N), ("then used", 1, STEP), ("then used", -1, STEP), ("then used", False, STEP),
    ("then used", STEP), ("then used", 0, STEP, STEP), ["then used", 0, STEP], ("then used", 0, None),
    ("cut", 0, IS_N, IS_S), ("cut", 1, IS_N, IS_N), ("cut", -1, IS_N, IS_N), ("cut", False, IS_N, IS_N),
    ("cut", True, ("is", GOES), STEP), ("cut", IS_N, IS_N), ("cut", 0, IS_N), ["cut", 0, IS_N, IS_N],
    ("cut", 0, MADE, STEP), ("cut", 1, IS_N, STEP), ("over used", 0, ("cut", 0, IS_N, IS_S), IS_S),
    ("over made", ("cut", 0, IS_N, IS_S)), ("then made", IS_N, ("over made", IS_N)),
    ("then made", IS_N, ("then used", 0, IS_N)),
] + OBJECTS


def slow_gives(row, goal, known):
    """Whether a row (a tuple) gives a goal, by trying all ways without any look at letters."""
    if (row, goal) not in known:
        known[(row, goal)] = row == (goal,) or _slow_made(row, goal, known) or _slow_used(row, goal, known)
    return known[(row, goal)]


def _slow_made(row, goal, known):
    if isinstance(goal, str):
        return False
    sign, first, second = goal
    if sign == "over":
        return slow_gives(row + (second,), first, known)
    if sign == "under":
        return slow_gives((first,) + row, second, known)
    return any(slow_gives(row[:k], first, known) and slow_gives(row[k:], second, known) for k in range(1, len(row)))


def _slow_used(row, goal, known):
    for place, kind in enumerate(row):
        if isinstance(kind, str):
            continue
        sign, first, second = kind
        ahead, behind = row[:place], row[place + 1:]
        if sign == "then" and slow_gives(ahead + (first, second) + behind, goal, known):
            return True
        if sign == "over":
            for k in range(1, len(behind) + 1):
                if slow_gives(behind[:k], second, known) and slow_gives(ahead + (first,) + behind[k:], goal, known):
                    return True
        if sign == "under":
            for k in range(len(ahead)):
                if slow_gives(ahead[k:], first, known) and slow_gives(ahead[:k] + (second,) + behind, goal, known):
                    return True
    return False


def slow_letters(kinds):
    """The letters of some types, one behind another, cancelled."""
    out = []
    for kind in kinds:
        for word, sign in _plain_letters(kind):
            if out and out[-1] == (word, -sign):
                out.pop()
            else:
                out.append((word, sign))
    return out


def _plain_letters(kind):
    if isinstance(kind, str):
        return [(kind, 1)]
    first, second = _plain_letters(kind[1]), _plain_letters(kind[2])
    if kind[0] == "over":
        return first + [(word, -sign) for word, sign in second[::-1]]
    if kind[0] == "under":
        return [(word, -sign) for word, sign in first[::-1]] + second
    return first + second


def slow_bar(row, goal, bar, steps_back):
    """Whether this list of rows with goals is closed and has a row with a goal in it."""
    for entry in bar:
        if entry[0] == [entry[1]]:
            return False
        for way in steps_back(entry[0], entry[1]):
            if not any(told in bar or slow_letters(told[0]) != slow_letters([told[1]]) for told in way):
                return False
    return (row, goal) in bar


def turned_slowly(kind):
    """A type turned about, written out as the document tells it."""
    if isinstance(kind, str):
        return kind
    if kind[0] == "over":
        return ("under", turned_slowly(kind[2]), turned_slowly(kind[1]))
    if kind[0] == "under":
        return ("over", turned_slowly(kind[2]), turned_slowly(kind[1]))
    return ("then", turned_slowly(kind[2]), turned_slowly(kind[1]))


def deep_kind(sign, signs, inner="p", outer="p"):
    """A type of so many signs, one within another, on the first side."""
    kind = inner
    for _ in range(signs):
        kind = (sign, kind, outer)
    return kind
