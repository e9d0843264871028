"""Derivations made of others, of arguments that were checked."""


def same(kinds):
    """The list of the derivations of some types from themselves."""
    return [("is", kind) for kind in kinds]


def put_together(parts):
    """The derivation of the rows of some derivations, one behind another, and of their goals' "then" from the left."""
    whole = parts[0]
    for part in parts[1:]:
        whole = ("then made", whole, part)
    return whole


def made_over(derivation, many):
    """The derivation whose goal waits for so many types at the end of the row instead."""
    for _ in range(many):
        derivation = ("over made", derivation)
    return derivation


def packed_up(derivation, place, many):
    """The derivation with so many types of the row, from a place on, put together by "then" from the left."""
    for _ in range(many - 1):
        derivation = ("then used", place, derivation)
    return derivation
