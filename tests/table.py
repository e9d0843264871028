"""Every function with its parameters: right arguments, and wrong ones with the class that is raised."""

from phrasejoins import derivations, forms, giving
from phrasejoins.errors import (
    InvalidCount, InvalidDerivation, InvalidKind, InvalidMap, InvalidPlace, InvalidPlains, InvalidRow,
)
from tests import samples

KIND = ("kind", samples.SEES, InvalidKind, samples.NO_KINDS)
GOAL = ("goal", "s", InvalidKind, samples.NO_KINDS)
ROW = ("row", ["n", samples.GOES], InvalidRow, samples.NO_ROWS)
SENT = ("sent", {"n": "p", "s": ("over", "p", "q")}, InvalidMap, samples.NO_MAPS)
PLAINS = ("plains", ["p", "q"], InvalidPlains, samples.NO_PLAINS)
NUMBER = ("number", 1, InvalidCount, samples.NO_COUNTS)
DERIVATION = ("derivation", samples.CUT, InvalidDerivation, samples.NO_DERIVATIONS)
ONE = ("one", samples.MADE, InvalidDerivation, samples.NO_DERIVATIONS)
OTHER = ("other", samples.USED, InvalidDerivation, samples.NO_DERIVATIONS)
PLACE = ("place", 0, InvalidPlace, samples.NO_COUNTS + [2, 3, 10 ** 29])
AHEAD = ("ahead", ["n"], InvalidRow, samples.NO_STRETCHES)
BEHIND = ("behind", ["s"], InvalidRow, samples.NO_STRETCHES)

# A last parameter called value is judged and has no class that is raised.
JUDGED_KIND = ("value", "n", None, samples.NO_KINDS)
JUDGED_DERIVATION = ("value", samples.STEP, None, samples.NO_DERIVATIONS)
JUDGED_BAR = ("value", [(["n", samples.GOES], "n")], None, [])

FUNCTIONS = [
    (forms.is_kind, [JUDGED_KIND]),
    (forms.signs_of, [KIND]),
    (forms.plains_of, [KIND]),
    (forms.is_free, [KIND]),
    (forms.turned, [KIND]),
    (forms.put_for, [KIND, SENT]),
    (forms.all_kinds, [PLAINS, NUMBER]),
    (forms.many_kinds, [PLAINS, NUMBER]),
    (derivations.is_derivation, [JUDGED_DERIVATION]),
    (derivations.told_by, [DERIVATION]),
    (derivations.is_derivation_of, [ROW, GOAL, JUDGED_DERIVATION]),
    (derivations.knots_of, [DERIVATION]),
    (derivations.cuts_of, [DERIVATION]),
    (derivations.turned_derivation, [DERIVATION]),
    (derivations.with_put, [DERIVATION, SENT]),
    (derivations.plain_out, [DERIVATION]),
    (derivations.cut_in, [ONE, OTHER, PLACE]),
    (giving.steps_back, [ROW, GOAL]),
    (giving.gives, [ROW, GOAL]),
    (giving.derivation_of, [ROW, GOAL]),
    (giving.bar_of, [ROW, ("goal", "n", InvalidKind, samples.NO_KINDS)]),
    (giving.is_bar, [ROW, GOAL, JUDGED_BAR]),
    (giving.without_cuts, [DERIVATION]),
    (giving.waits_for, [AHEAD, GOAL, BEHIND]),
]
