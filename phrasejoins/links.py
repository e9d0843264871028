"""Links of plain types in derivations, and types between a stretch of a row and the rest."""

from phrasejoins.checks import check_asked, check_places
from phrasejoins.derivations import check_derivation, is_derivation_of
from phrasejoins.errors import Refused
from phrasejoins.forms import is_kind, kinds_in
from phrasejoins.giving import derivation_of
from phrasejoins.knots import knots_in
from phrasejoins.stretches import between_along
from phrasejoins.threads import links_in


def _parts_in(kinds):
    """The list of all types in some types."""
    return [part for kind in kinds for part in kinds_in(kind)]


def knots_ahead(row, goal):
    """How many knots each derivation of a row and a goal without cuts has, "is" used of plain types alone."""
    check_asked(row, goal)
    signs = len([part for part in _parts_in(row + [goal]) if isinstance(part, tuple)])
    ends = signs + len(row) + 1
    return signs + ends // 2 if ends % 2 == 0 else None


def links_of(derivation):
    """The ascending list of the tuples of spots that a derivation without cuts links."""
    check_derivation(derivation)
    if [knot for knot in knots_in(derivation) if knot[0] == "cut"]:
        raise Refused(derivation)
    return links_in(derivation)


def between(row, goal, first, last):
    """The list of a type between a stretch of a row and the rest and the two derivations that show it."""
    check_asked(row, goal)
    check_places(row, first, last)
    derivation = derivation_of(row, goal)
    if derivation is None:
        return None
    return list(between_along(derivation, first, last))


def _plain_counts(kinds):
    """The dictionary from the plain types in some types to how often they stand in these."""
    counts = {}
    for part in _parts_in(kinds):
        if isinstance(part, str):
            counts[part] = counts.get(part, 0) + 1
    return counts


def _is_meagre(kind, others):
    """Whether each plain type stands in a type at most as often as in some others."""
    most = _plain_counts(others)
    return all([many <= most.get(word, 0) for word, many in _plain_counts([kind]).items()])


def is_between(row, goal, first, last, value):
    """Whether any object is the list of a type between a stretch of a row and the rest and two such derivations."""
    check_asked(row, goal)
    check_places(row, first, last)
    if not isinstance(value, list) or len(value) != 3 or not is_kind(value[0]):
        return False
    kind, inner, outer = value
    stretch, ahead, behind = row[first:last], row[:first], row[last:]
    if not _is_meagre(kind, stretch) or not _is_meagre(kind, ahead + behind + [goal]):
        return False
    return is_derivation_of(stretch, kind, inner) and is_derivation_of(ahead + [kind] + behind, goal, outer)
