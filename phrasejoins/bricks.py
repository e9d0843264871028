"""Rows of bricks: types with one letter or none, of which plain forms are put together."""


def nothing_of(plain):
    """The brick without letters."""
    return ("over", plain, plain)


def bricks_of(letters, plain):
    """The list of the bricks with some letters, one for each; of the brick without letters if there are none."""
    nothing = nothing_of(plain)
    bricks = [word if sign == 1 else ("over", nothing, word) for word, sign in letters]
    return bricks or [nothing]


class Unit:
    """Bricks without letters, with a tail of types.

    The bricks and the tail behind them give just this tail, so they do behind
    anything: the parts are the derivations of the tail's types, of which the
    rows, one behind another, are the bricks and the tail.
    """

    def __init__(self, bricks, tail, parts):
        self.bricks = bricks
        self.tail = tail
        self.parts = parts


def unit_at(bricks, place, plain):
    """The unit of one or two bricks that begins at a place, None if there is none."""
    nothing = nothing_of(plain)
    brick = bricks[place]
    kept = ("over used", 0, ("is", plain), ("is", plain))
    if brick == nothing:
        return Unit([brick], [plain], [kept])
    if place + 1 == len(bricks):
        return None
    later = bricks[place + 1]
    if later == ("over", nothing, brick):
        return Unit([brick, later], [brick, plain], [("is", brick), ("over used", 0, ("is", brick), kept)])
    if brick == ("over", nothing, later):
        return Unit([brick, later], [plain], [("over used", 0, ("is", later), kept)])
    return None
