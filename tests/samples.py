"""Values that the tests share: right ones, wrong ones, and slow ways to judge results by."""

from phrasejoins.books import Book
from phrasejoins.desk import Desk
from phrasejoins.errors import InvalidKind, PhraseError, Refused
from phrasejoins.pool import Pool
from phrasejoins.worlds import World

GOES = ("under", "n", "s")
SEES = ("over", GOES, "n")
RAISED = ("over", "s", GOES)
PAIR = ("then", "n", GOES)
IS_N = ("is", "n")
IS_S = ("is", "s")
STEP = ("under used", 0, IS_N, IS_S)
MADE = ("over made", STEP)
USED = ("over used", 0, ("is", GOES), IS_S)
CUT = ("cut", 0, MADE, USED)
THEN = ("then made", IS_N, ("is", GOES))
UNPACKED = ("then used", 0, STEP)

# Each with the row and the goal that it tells.
DERIVATIONS = [
    (IS_N, ["n"], "n"),
    (("is", SEES), [SEES], SEES),
    (STEP, ["n", GOES], "s"),
    (MADE, ["n"], RAISED),
    (("under made", STEP), [GOES], GOES),
    (USED, [RAISED, GOES], "s"),
    (THEN, ["n", GOES], PAIR),
    (UNPACKED, [PAIR], "s"),
    (("then used", 0, THEN), [PAIR], PAIR),
    (CUT, ["n", GOES], "s"),
    (("cut", 0, CUT, IS_S), ["n", GOES], "s"),
    (("cut", 1, ("is", GOES), CUT), ["n", GOES], "s"),
    (("cut", 0, ("cut", 0, IS_N, IS_N), CUT), ["n", GOES], "s"),
    (("cut", 0, THEN, UNPACKED), ["n", GOES], "s"),
    (("over used", 1, IS_N, STEP), ["n", SEES, "n"], "s"),
    (("under used", 1, IS_N, THEN), ["n", "n", ("under", "n", GOES)], PAIR),
    (("then used", 1, ("over used", 1, IS_N, STEP)), ["n", ("then", SEES, "n")], "s"),
]

# Of the things even and odd, as numbers are added.
PARITY = {("even", "even"): "even", ("even", "odd"): "odd", ("odd", "even"): "odd", ("odd", "odd"): "even"}
PARITY_LOTS = {"n": ["odd"], "s": ["even"]}
WORLD = World(PARITY, PARITY_LOTS)

BOOK = Book({"all": [RAISED], "ann": ["n"], "run": [GOES], "see": [SEES, GOES]}, "s")
DESK = Desk("s")

# Of classes of the package, of no use as any argument but as a world, a book or a desk.
OBJECTS = [PhraseError(), InvalidKind("n"), Refused(), Pool(), WORLD, BOOK, DESK, DESK.trial()]


def objects_but(made):
    """Those that are of another class."""
    return [thing for thing in OBJECTS if not isinstance(thing, made)]


NO_KINDS = [
    None, True, False, 0, 1, -1, 10 ** 29, "", "N", "n1", "ninechars", "two words", "n\n", "\tn", "n ", "n~",
    [], ["n"], (), ("n",), ("over",), ("over", "n"), ["over", "n", "s"], ("over", "n", "s", "s"),
    ("beside", "n", "s"), ("Over", "n", "s"), ("over made", "n", "s"), ("over", "n", None), ("over", True, "s"),
    ("under", ["n"], "s"), ("under", "n", ["over", "n", "s"]), ("then", "n", ("under", "s")), ("then", "", "n"),
    (1, "n", "s"), (True, "n", "s"), (None, "n", "s"), (["over"], "n", "s"), (("over",), "n", "s"),
    ("n", "over", "s"), ("is", "n"), {}, {"n": "s"}, {0: "over", 1: "n", 2: "s"}, {("over", "n", "s"): True},
] + OBJECTS

NO_STRETCHES = [
    None, True, False, 0, 5, "n", "", (), ("n",), ("n", "s"), ("over", "n", "s"), {}, {"n": "s"}, {0: "n"},
    [[]], [["n"]], ["n", 1], [True], ["n", None], ["N"], [""], [("n",)], ["n", ["over", "s", "n"]],
    [("over", "n", ["s"])], [("n", "s")], [{}], [Pool()],
] + OBJECTS

NO_ROWS = [[]] + NO_STRETCHES

NO_COUNTS = [
    None, True, False, -1, -10 ** 29, "1", "", "one", [], [1], (), (1,), {}, {1: 1}, {0: 0}, ("over", "n", "s"),
] + OBJECTS

NO_PLAINS = [
    None, True, 3, "p", "pq", (), ("p",), ("p", "q"), [], ["q", "p"], ["p", "p"], ["p", 1], [True], ["P"],
    ["p", "p1"], ["p", ""], ["p", "ninechars"], [("over", "p", "q")], [["p"]], ["p", None], {}, {"p": "q"},
] + OBJECTS

# Of n and s.
NO_MAPS = [
    None, True, 0, "ns", "", [], ["n", "s"], [("n", "p"), ("s", "q")], (), (("n", "p"), ("s", "q")), {}, {"n": "p"},
    {"n": "p", "t": "q"}, {"n": "p", "s": "q", "t": "p"}, {"n": "p", "s": 1}, {"n": "p", "s": None},
    {"n": True, "s": "q"}, {"n": "p", "s": ["over", "p", "q"]}, {"n": "p", 1: "q"}, {"n": "p", ("s",): "q"},
    {"n": "p", "s": "Q"}, {"n": "p", "s": "q", None: "p"}, {"n": "p", "s": {}}, {True: "p", False: "q"},
] + OBJECTS

NO_DERIVATIONS = [
    None, True, False, 0, 7, "", "is", "n", (), [], {}, {"is": "n"}, {0: "is", 1: "n"}, ("is",), ("is", "n", "s"),
    ["is", "n"], ("is", ["n"]), ("is", 1), ("is", True), ("is", None), ("is", ""), ("is", ("over", "n")), ("Is", "n"),
    ("are", "n"), (1, "n"), (None, IS_N), (["is"], "n"), GOES, ("over", IS_N, IS_N),
    ("over made",), ("over made", IS_N), ("over made", "n"), ("over made", STEP, STEP), ["over made", STEP],
    ("over made", 0, STEP), ("over made", list(STEP)), ("over made", None), ("under made",), ("under made", IS_N),
    ("under made", STEP, STEP), ("under made", 0, STEP), ("over made", MADE), ("under made", MADE),
    ("then made", IS_N), ("then made", IS_N, "n"), ("then made", 0, IS_N, IS_N), ["then made", IS_N, IS_N],
    ("then made", IS_N, IS_N, IS_N), ("then made", IS_N, None),
    ("over used", IS_N, IS_S), ("over used", 1, IS_N, IS_S), ("over used", -1, IS_N, IS_S),
    ("over used", True, IS_N, STEP), ("over used", False, IS_N, IS_S), ("over used", None, IS_N, IS_S),
    ("over used", "0", IS_N, IS_S), ("over used", [0], IS_N, IS_S), ("over used", 0, IS_N),
    ("over used", 0, IS_N, IS_S, IS_S), ["over used", 0, IS_N, IS_S], ("over used", 10 ** 29, IS_N, IS_S),
    ("under used", 1, IS_N, IS_S), ("under used", -1, IS_N, IS_S), ("under used", False, IS_N, IS_S),
    ("under used", True, IS_N, STEP), ("under used", 0, IS_N), ("under used", 0, "n", IS_S),
    ("under used", 0, IS_N, "s"), ["under used", 0, IS_N, IS_S], ("under used", 2, IS_N, STEP),
    ("then used", 0, IS_N), ("then used", 1, STEP), ("then used", -1, STEP), ("then used", False, STEP),
    ("then used", STEP), ("then used", 0, STEP, STEP), ["then used", 0, STEP], ("then used", 0, None),
    ("cut", 0, IS_N, IS_S), ("cut", 1, IS_N, IS_N), ("cut", -1, IS_N, IS_N), ("cut", False, IS_N, IS_N),
    ("cut", True, ("is", GOES), STEP), ("cut", IS_N, IS_N), ("cut", 0, IS_N), ["cut", 0, IS_N, IS_N],
    ("cut", 0, MADE, STEP), ("cut", 1, IS_N, STEP), ("over used", 0, ("cut", 0, IS_N, IS_S), IS_S),
    ("over made", ("cut", 0, IS_N, IS_S)), ("then made", IS_N, ("over made", IS_N)),
    ("then made", IS_N, ("then used", 0, IS_N)),
] + OBJECTS

NO_LETTERS = [
    None, True, False, 0, 1, "", "n", (), ("n", 1), (("n", 1),), {}, {"n": 1}, {("n", 1): True}, ["n"], ["n", 1], [1],
    [None], [()], [("n",)], [("n", 0)], [("n", 2)], [("n", -2)], [("n", True)], [("n", False)], [("n", "1")],
    [("n", None)], [("n", [1])], [["n", 1]], [("N", 1)], [("", 1)], [("ninechars", 1)], [(1, "n")], [(1, 1)],
    [("n", 1, 1)], [(("n",), 1)], [("n", 1), ("n", -1)], [("n", -1), ("n", 1)], [("s", 1), ("n", -1), ("n", 1)],
    [("n", 1), ("s", 1), ("s", -1), ("n", 1)], [("n", 1), None], [("n", 1), "n"], [{}], [[]], [("n", 10 ** 29)],
    [("n", 1), ("s", True)], [GOES], [Pool()],
] + OBJECTS

NO_TURNS = [
    None, True, False, 0, "", "n", [], ["n"], [("n", [0])], (), (("n", [0]),), {}, {"n": []}, {"n": [1]}, {"n": [0, 0]},
    {"n": [1, 2]}, {"n": [-1, 0]}, {"n": [0, 2]}, {"n": [0, 1], "s": [0]}, {"n": [0], "s": [1, 0]}, {"n": (0,)},
    {"n": (0, 1), "s": [0, 1]}, {"n": [False]}, {"n": [False, True]}, {"n": [0, True]}, {"n": None}, {"n": 0},
    {"n": "0"}, {"n": ["0"]}, {"n": [[0]]}, {"n": [None]}, {"n": {0: 0}}, {"N": [0]}, {"": [0]}, {1: [0]}, {None: [0]},
    {("n",): [0]}, {"n": [0], "s": [0], 1: [0]}, {"n": [0], "s": []}, {"n": [0], "s": [0], "t": [0, 1]},
    {"ninechars": [0]}, {"n": [10 ** 29]}, {GOES: [0]},
] + OBJECTS

NO_TABLES = [
    None, True, False, 0, "", "a", [], (), {}, [("a", "a")], [(("a", "a"), "a")], (("a", "a"), "a"), {"a": "a"},
    {("a",): "a"}, {("a", "a", "a"): "a"}, {("a", "a"): None}, {("a", "a"): "b"}, {("a", "a"): ["a"]},
    {("a", "a"): ("a",)}, {("a", "a"): True}, {("A", "A"): "A"}, {("", ""): ""}, {(1, 1): 1}, {(True, True): True},
    {("a", None): "a"}, {(None, "a"): "a"}, {("a", "a"): "a", (None, "a"): "a"}, {("a", "a"): "a", ("a", 1): "a"},
    {(("a",), ("a",)): ("a",)}, {("a", "b"): "a"}, {("a", "b"): "a", ("b", "a"): "a"},
    {("ninechars", "ninechars"): "ninechars"}, {**PARITY, ("odd", "odd"): "none"}, {**PARITY, ("odd", "odd"): True},
    {**PARITY, ("odd", "none"): "odd"}, {**PARITY, "odd": "odd"}, {**PARITY, None: "odd"}, {**PARITY, ("a",): "odd"},
    {pair: end for pair, end in PARITY.items() if pair != ("odd", "odd")},
    {pair: end for pair, end in PARITY.items() if pair != ("even", "odd")},
    # Not associative: each of these has just one thing amiss.
    {**PARITY, ("even", "even"): "odd"}, {**PARITY, ("even", "odd"): "even"},
    {("a", "a"): "b", ("a", "b"): "a", ("b", "a"): "a", ("b", "b"): "a"},
] + OBJECTS

# Of the things even and odd.
NO_LOTS = [
    None, True, False, 0, "", "n", [], ["odd"], (), {}, ("n", ["odd"]), [("n", ["odd"])], {"n": None}, {"n": "odd"},
    {"n": ("odd",)}, {"n": ()}, {"n": {}}, {"n": {"odd": True}}, {"n": ["none"]}, {"n": [None]}, {"n": [True]},
    {"n": [["odd"]]}, {"n": ["odd", "even"]}, {"n": ["odd", "odd"]}, {"n": ["even", "odd", "odd"]}, {"n": ["n"]},
    {"n": ["even", "none"]}, {"n": [("odd", "odd")]}, {"N": ["odd"]}, {"": ["odd"]}, {1: ["odd"]}, {None: ["odd"]},
    {("n",): ["odd"]}, {"ninechars": ["odd"]}, {"n": ["odd"], "s": ["odd", "even"]}, {"n": ["odd"], "s": None},
    {"n": ["odd"], "s": ["even"], 1: []}, {GOES: ["odd"]}, {"n": [WORLD]}, {"n": ["odd"], "n s": []},
] + OBJECTS

NO_WORLDS = [
    None, True, False, 0, 1, "", "n", "world", [], (), {}, PARITY, PARITY_LOTS, (PARITY, PARITY_LOTS),
    [PARITY, PARITY_LOTS], {"n": ["odd"]}, [WORLD], (WORLD,), {"world": WORLD}, World,
] + objects_but(World)

NO_THINGS = [
    None, True, False, 0, 1, "", "n", "none", "Odd", "odd ", [], ["odd"], (), ("odd",), ("odd", "odd"), {}, {"odd": 1},
    GOES,
] + OBJECTS


def slow_gives(row, goal, known):
    """Whether a row (a tuple) gives a goal, by trying all ways without any look at letters."""
    if (row, goal) not in known:
        known[(row, goal)] = row == (goal,) or _slow_made(row, goal, known) or _slow_used(row, goal, known)
    return known[(row, goal)]


def _slow_made(row, goal, known):
    if isinstance(goal, str):
        return False
    sign, first, second = goal
    if sign == "over":
        return slow_gives(row + (second,), first, known)
    if sign == "under":
        return slow_gives((first,) + row, second, known)
    return any(slow_gives(row[:k], first, known) and slow_gives(row[k:], second, known) for k in range(1, len(row)))


def _slow_used(row, goal, known):
    for place, kind in enumerate(row):
        if isinstance(kind, str):
            continue
        sign, first, second = kind
        ahead, behind = row[:place], row[place + 1:]
        if sign == "then" and slow_gives(ahead + (first, second) + behind, goal, known):
            return True
        if sign == "over":
            for k in range(1, len(behind) + 1):
                if slow_gives(behind[:k], second, known) and slow_gives(ahead + (first,) + behind[k:], goal, known):
                    return True
        if sign == "under":
            for k in range(len(ahead)):
                if slow_gives(ahead[k:], first, known) and slow_gives(ahead[:k] + (second,) + behind, goal, known):
                    return True
    return False


def slow_letters(kinds):
    """The letters of some types, one behind another, cancelled."""
    out = []
    for kind in kinds:
        for word, sign in _plain_letters(kind):
            if out and out[-1] == (word, -sign):
                out.pop()
            else:
                out.append((word, sign))
    return out


def _plain_letters(kind):
    if isinstance(kind, str):
        return [(kind, 1)]
    first, second = _plain_letters(kind[1]), _plain_letters(kind[2])
    if kind[0] == "over":
        return first + [(word, -sign) for word, sign in second[::-1]]
    if kind[0] == "under":
        return [(word, -sign) for word, sign in first[::-1]] + second
    return first + second


def slow_readings(row, goal):
    """How many readings of a goal a row (a tuple) has, written out as the document tells it."""
    if not isinstance(goal, str):
        if goal[0] == "over":
            return slow_readings(row + (goal[2],), goal[1])
        return slow_readings((goal[1],) + row, goal[2])
    many = 0
    for place, kind in enumerate(row):
        head, behind, ahead = _slow_waits(kind)
        if head == goal:
            # Ahead, the nearest row is the last one.
            many += _slow_cuts(row[place + 1:], behind) * _slow_cuts(row[:place], ahead[::-1])
    return many


def _slow_waits(kind):
    if isinstance(kind, str):
        return kind, [], []
    if kind[0] == "over":
        head, behind, ahead = _slow_waits(kind[1])
        return head, [kind[2]] + behind, ahead
    head, behind, ahead = _slow_waits(kind[2])
    return head, behind, [kind[1]] + ahead


def _slow_cuts(row, goals):
    if not goals:
        return 0 if row else 1
    return sum(slow_readings(row[:end], goals[0]) * _slow_cuts(row[end:], goals[1:]) for end in range(1, len(row) + 1))


def all_derivations(row, goal):
    """All derivations without cuts, "is" used of plain types alone."""
    found = [("is", goal)] if row == [goal] and isinstance(goal, str) else []
    if not isinstance(goal, str):
        sign, first, second = goal
        if sign == "over":
            found += [("over made", made) for made in all_derivations(row + [second], first)]
        if sign == "under":
            found += [("under made", made) for made in all_derivations([first] + row, second)]
        if sign == "then":
            found += [("then made", one, other) for k in range(1, len(row))
                      for one in all_derivations(row[:k], first) for other in all_derivations(row[k:], second)]
    for place, kind in enumerate(row):
        if not isinstance(kind, str):
            found += _all_using(row, goal, place)
    return found


def _all_using(row, goal, place):
    sign, first, second = row[place]
    ahead, behind = row[:place], row[place + 1:]
    if sign == "then":
        return [("then used", place, made) for made in all_derivations(ahead + [first, second] + behind, goal)]
    if sign == "over":
        return [("over used", place, one, other) for k in range(1, len(behind) + 1)
                for one in all_derivations(behind[:k], second)
                for other in all_derivations(ahead + [first] + behind[k:], goal)]
    return [("under used", k, one, other) for k in range(place)
            for one in all_derivations(ahead[k:], first)
            for other in all_derivations(ahead[:k] + [second] + behind, goal)]


def slow_lot(table, lots, kind):
    """The lot of a type, as a set, written out as the document tells it."""
    if isinstance(kind, str):
        return set(lots[kind])
    sign, first, second = kind[0], slow_lot(table, lots, kind[1]), slow_lot(table, lots, kind[2])
    things = {thing for pair in table for thing in pair}
    if sign == "over":
        return {x for x in things if all(table[x, y] in first for y in second)}
    if sign == "under":
        return {x for x in things if all(table[y, x] in second for y in first)}
    return {table[x, y] for x in first for y in second}


def slow_bar(row, goal, bar, steps_back):
    """Whether this list of rows with goals is closed and has a row with a goal in it."""
    for entry in bar:
        if entry[0] == [entry[1]]:
            return False
        for way in steps_back(entry[0], entry[1]):
            if not any(told in bar or slow_letters(told[0]) != slow_letters([told[1]]) for told in way):
                return False
    return (row, goal) in bar


def turned_slowly(kind):
    """A type turned about, written out as the document tells it."""
    if isinstance(kind, str):
        return kind
    if kind[0] == "over":
        return ("under", turned_slowly(kind[2]), turned_slowly(kind[1]))
    if kind[0] == "under":
        return ("over", turned_slowly(kind[2]), turned_slowly(kind[1]))
    return ("then", turned_slowly(kind[2]), turned_slowly(kind[1]))


def deep_kind(sign, signs, inner="p", outer="p"):
    """A type of so many signs, one within another, on the first side."""
    kind = inner
    for _ in range(signs):
        kind = (sign, kind, outer)
    return kind
