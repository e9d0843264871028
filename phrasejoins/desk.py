"""A desk: a row of types that is worked on for a goal, and all that was done on it."""

from phrasejoins.deeds import carried_out, is_deed
from phrasejoins.errors import InvalidDesk, InvalidPlace, InvalidRecord, NothingToRedo, NothingToUndo, Refused
from phrasejoins.forms import check_kind, has_sign
from phrasejoins.giving import derivation_of
from phrasejoins.group import letters_along, letters_in
from phrasejoins.values import is_count

_MOST = 5


class Trial:
    """A block in which a desk can be worked on; when it is left, the desk is as it was when it was entered."""

    def __init__(self, desk):
        self.desk = desk
        self.held = None

    def __enter__(self):
        self.held = self.desk._state
        return self.desk

    def __exit__(self, kind, value, trace):
        desk = self.desk
        desk._state = self.held


class Desk:
    """A goal and a row, at first empty, with what was done and what was undone.

    All of this but the goal is one tuple that is never changed, only exchanged:
    so blocks and copies need no more than to keep it. In it, what was done are
    tuples of a deed and the row ahead of it, and what was undone, the last one
    last, are tuples of a deed and the row behind it.
    """

    def __init__(self, goal):
        check_kind(goal)
        self._goal = goal
        self._state = ((), (), ())

    def goal(self):
        """The goal."""
        return self._goal

    def row(self):
        """The row."""
        return list(self._state[0])

    def put(self, place, kind):
        """Puts a type into the row, so that it stands at the place."""
        row = self.row()
        if not is_count(place) or place > len(row):
            raise InvalidPlace(place)
        check_kind(kind)
        if len(row) >= _MOST:
            raise Refused(kind)
        self._do(("put", place, kind), row[:place] + [kind] + row[place:])

    def take(self, place):
        """Takes the type at a place out of the row and returns it."""
        row = self.row()
        self._check_place(place, 1)
        self._do(("take", place), row[:place] + row[place + 1:])
        return row[place]

    def use(self, place):
        """Exchanges a type and the next one, of which one waits for the other, for what it gives."""
        row = self.row()
        self._check_place(place, 2)
        one, other = row[place], row[place + 1]
        if has_sign(one, "over") and one[2] == other:
            kind = one[1]
        elif has_sign(other, "under") and other[1] == one:
            kind = other[2]
        else:
            raise Refused(place)
        self._do(("use", place), row[:place] + [kind] + row[place + 2:])

    def make(self, place, kind):
        """Exchanges the type at a place for one that it alone gives."""
        row = self.row()
        self._check_place(place, 1)
        check_kind(kind)
        if derivation_of([row[place]], kind) is None:
            raise Refused(kind)
        self._do(("make", place, kind), row[:place] + [kind] + row[place + 1:])

    def gives(self):
        """Whether the row gives the goal; the empty one does not."""
        return self.derivation() is not None

    def derivation(self):
        """A derivation that tells the row and the goal, None if there is none."""
        row = self.row()
        return derivation_of(row, self._goal) if row else None

    def letters(self):
        """The row's letters."""
        return letters_along(self.row())

    def can_give(self):
        """Whether the row has the goal's letters."""
        return self.letters() == letters_in(self._goal)

    def undo(self):
        """Undoes the last deed that stands."""
        row, done, undone = self._state
        if not done:
            raise NothingToUndo()
        deed, ahead = done[-1]
        self._state = (ahead, done[:-1], undone + ((deed, row),))

    def redo(self):
        """Does again the deed that was undone last."""
        row, done, undone = self._state
        if not undone:
            raise NothingToRedo()
        deed, behind = undone[-1]
        self._state = (behind, done + ((deed, row),), undone[:-1])

    def trial(self):
        """A block; when it is left, the desk is as it was when it was entered."""
        return Trial(self)

    def attempt(self, action):
        """What a function, called with the desk in a block, returns."""
        with self.trial():
            return action(self)

    def copy(self):
        """An independent desk that tells the same."""
        other = Desk(self._goal)
        other._state = self._state
        return other

    def record(self):
        """The list of the deeds that stand."""
        return [deed for deed, ahead in self._state[1]]

    def _check_place(self, place, many):
        """Raises InvalidPlace unless so many types stand in the row from this place on."""
        if not is_count(place) or place + many > len(self._state[0]):
            raise InvalidPlace(place)

    def _do(self, deed, row):
        """Notes a deed and the row behind it; nothing is left to be done again."""
        self._state = (tuple(row), self._state[1] + ((deed, self._state[0]),), ())


def check_desk(desk):
    """Raises InvalidDesk unless this is a desk."""
    if not isinstance(desk, Desk):
        raise InvalidDesk(desk)


def replayed(desk, record):
    """A copy of a desk on which the deeds of a record were carried out."""
    check_desk(desk)
    if not isinstance(record, list) or not all([is_deed(deed) for deed in record]):
        raise InvalidRecord(record)
    other = desk.copy()
    for deed in record:
        carried_out(other, deed)
    return other
