"""Chains from types to plain forms, by way of rows of bricks.

A row of bricks stands for its types put together by "then" from the left. With
a type X ahead of a unit both X and the unit, and X alone, give X and the unit's
tail over this tail; so a unit goes in two steps.
"""

from phrasejoins.bricks import bricks_of, nothing_of, unit_at
from phrasejoins.building import made_over, packed_up, put_together, same
from phrasejoins.forms import folded, then_of
from phrasejoins.group import gone_back, signed_letters
from phrasejoins.steps import all_first, all_second, gone_back_through


def _with_unit(kind, unit):
    """The derivation of a type and a unit behind it, and of what both and the type alone give."""
    return made_over(put_together([("is", kind)] + unit.parts), len(unit.tail))


def _without_unit(kind, unit):
    """The derivation of a type alone, and of what it and a unit behind it give."""
    return made_over(put_together(same([kind] + unit.tail)), len(unit.tail))


def _unit_behind(kind, unit):
    """The chain from a type and a unit behind it to the type."""
    both = packed_up(_with_unit(kind, unit), 0, len(unit.bricks) + 1)
    return [("on", both), ("back", _without_unit(kind, unit))]


def _unit_ahead(unit, bricks):
    """The chain from a unit and a row of bricks behind it to this row."""
    kind = then_of(bricks)
    both = ("under made", ("then made", _with_unit(kind, unit), put_together(same(bricks))))
    alone = ("under made", ("then made", _without_unit(kind, unit), ("is", kind)))
    return [("on", packed_up(both, 0, len(unit.bricks + bricks))), ("back", alone)]


def _unit_alone(unit, nothing):
    """The chain from a unit to the brick without letters."""
    return gone_back_through(_unit_behind(then_of(unit.bricks), nothing)) + _unit_ahead(unit, nothing.bricks)


def _unit_gone(bricks, place, unit, plain):
    """The chain from a row of bricks to the one without the unit at a place."""
    ahead, behind = bricks[:place], bricks[place + len(unit.bricks):]
    if ahead:
        chain = _unit_behind(then_of(ahead), unit)
        for brick in behind:
            chain = all_first(chain, "then", brick)
        return chain
    if behind:
        return _unit_ahead(unit, behind)
    return _unit_alone(unit, unit_at([nothing_of(plain)], 0, plain))


def _last_unit(bricks, plain):
    """The tuple of the place of the last unit in a row of bricks and this unit, None if there is none."""
    for place in range(len(bricks) - 1, -1, -1):
        unit = unit_at(bricks, place, plain)
        if unit is not None:
            return (place, unit)
    return None


def _cleared(bricks, plain):
    """The chain from a row of bricks to the one with its letters, cancelled."""
    chain = []
    last = _last_unit(bricks, plain)
    while last is not None and bricks != [nothing_of(plain)]:
        place, unit = last
        chain = chain + _unit_gone(bricks, place, unit, plain)
        bricks = bricks[:place] + bricks[place + len(unit.bricks):] or [nothing_of(plain)]
        last = _last_unit(bricks, plain)
    return chain


def _then_road(first, second, plain):
    """The chain from two rows of bricks, put together by "then", to the one with their letters, cancelled."""
    together = packed_up(put_together(same([then_of(first)] + second)), 1, len(second))
    return [("on", packed_up(together, 0, 2))] + _cleared(first + second, plain)


def _over_road(first, second, back, plain):
    """The chain from a row of bricks over another to the first one with the second one's letters turned back behind."""
    made = then_of(first + back)
    put = ("over made", packed_up(put_together(same([made] + second)), 1, len(second)))
    cleared = _cleared(first + back + second, plain)
    chain = [("on", put)] + all_first(cleared, "over", then_of(second))
    return gone_back_through(chain) + _cleared(first + back, plain)


def _under_road(first, second, back, plain):
    """The chain from a row of bricks under another to the second one with the first one's letters turned back ahead."""
    row = first + back + second
    put = packed_up(packed_up(put_together(same(row)), 0, len(first)), 1, len(back + second))
    chain = [("on", ("under made", put))] + all_second(_cleared(row, plain), "under", then_of(first))
    return gone_back_through(chain) + _cleared(back + second, plain)


def _signed_road(sign, first, second, plain):
    """The chain from the type of a sign and two plain forms, told by their letters, to the plain form."""
    one, other = bricks_of(first, plain), bricks_of(second, plain)
    if sign == "over":
        return _over_road(one, other, bricks_of(gone_back(second), plain) if second else [], plain)
    if sign == "under":
        return _under_road(one, other, bricks_of(gone_back(first), plain) if first else [], plain)
    return _then_road(one, other, plain)


def road_to_form(kind, plain):
    """A chain from a type to the plain form of its letters."""

    def at_signed(sign, first, second):
        one, one_letters, one_road = first
        other, other_letters, other_road = second
        form = then_of(bricks_of(one_letters, plain))
        road = all_first(one_road, sign, other) + all_second(other_road, sign, form)
        road = road + _signed_road(sign, one_letters, other_letters, plain)
        return ((sign, one, other), signed_letters(sign, one_letters, other_letters), road)

    return folded(kind, lambda word: (word, [(word, 1)], []), at_signed)[2]
