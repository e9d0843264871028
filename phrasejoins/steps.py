"""Steps of chains: derivations of one type from one type, gone on or back."""

from phrasejoins.cutting import derivation_without_cuts
from phrasejoins.knots import telling_of

_OTHER_WAYS = {"on": "back", "back": "on"}


def _other_way(way):
    return _OTHER_WAYS[way]


def ends_of_step(value):
    """The tuple of the types that any object leads from and to as a step, None if it is no step."""
    if not isinstance(value, tuple) or len(value) != 2:
        return None
    way, derivation = value
    if way not in ("on", "back"):
        return None
    told = telling_of(derivation)
    if told is None or len(told[0]) != 1:
        return None
    begin, end = told[0][0], told[1]
    return (begin, end) if way == "on" else (end, begin)


def kinds_through(value):
    """The list of the types that any object goes through as a chain, none for []; None if it is no chain."""
    if not isinstance(value, list):
        return None
    kinds = []
    for step in value:
        ends = ends_of_step(step)
        if ends is None or kinds and kinds[-1] != ends[0]:
            return None
        kinds = (kinds or [ends[0]]) + [ends[1]]
    return kinds


def gone_back_through(chain):
    """The chain from the end of a chain to its begin."""
    return [(_other_way(way), derivation) for way, derivation in reversed(chain)]


def step_first(step, word, kind):
    """The step of tuples (word, each, kind) for a step of types."""
    way, derivation = step
    same = ("is", kind)
    if word == "over":
        return (way, ("over made", ("over used", 0, same, derivation)))
    if word == "under":
        return (_other_way(way), ("under made", ("under used", 0, derivation, same)))
    return (way, ("then used", 0, ("then made", derivation, same)))


def step_second(step, word, kind):
    """The step of tuples (word, kind, each) for a step of types."""
    way, derivation = step
    same = ("is", kind)
    if word == "over":
        return (_other_way(way), ("over made", ("over used", 0, derivation, same)))
    if word == "under":
        return (way, ("under made", ("under used", 0, same, derivation)))
    return (way, ("then used", 0, ("then made", same, derivation)))


def all_first(chain, word, kind):
    """The chain through the tuples (word, each, kind)."""
    return [step_first(step, word, kind) for step in chain]


def all_second(chain, word, kind):
    """The chain through the tuples (word, kind, each)."""
    return [step_second(step, word, kind) for step in chain]


def _both_in_one(step, later):
    """One step for two of the same way; without cuts it is no greater than its ends let it be."""
    way, derivation = step
    if way == "on":
        return (way, derivation_without_cuts(("cut", 0, derivation, later[1])))
    return (way, derivation_without_cuts(("cut", 0, later[1], derivation)))


def _without_rings(chain):
    """The chain without what leads back to a type that was gone through."""
    kinds, steps = kinds_through(chain)[:1], []
    for step in chain:
        end = ends_of_step(step)[1]
        kept = kinds.index(end) if end in kinds else len(steps) + 1
        kinds = kinds[:kept] + [end]
        steps = (steps + [step])[:kept]
    return steps


def made_short(chain):
    """The chain without rings, and then with each neighbouring steps of one way as one."""
    steps = []
    for step in _without_rings(chain):
        if steps and steps[-1][0] == step[0]:
            steps[-1] = _both_in_one(steps[-1], step)
        else:
            steps.append(step)
    return steps
