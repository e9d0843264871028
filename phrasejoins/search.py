"""The search back from a row and a goal for a derivation without cuts."""

from phrasejoins.trees import from_inside
from phrasejoins.ways import ways_back

# If anything tells a row and a goal that can end so, then so does a derivation that ends so.
_SURE = ("over made", "under made", "then used")


class Search:
    """What is known of rows and goals of a pool's numbers; each is looked at once."""

    def __init__(self, pool):
        self.pool = pool
        # By the row and the goal: the way in which a derivation ends, None if there is none.
        self.found = {}
        # The ways not yet tried, the next one last.
        self.left = {}

    def holds(self, row, goal):
        """Whether a row gives a goal."""
        waiting = [(row, goal)]
        while waiting:
            needed = self.needed_for(waiting[-1])
            if needed is None:
                waiting.pop()
            else:
                waiting.append(needed)
        return self.found[(row, goal)] is not None

    def needed_for(self, asked):
        """A row and a goal that must be settled ahead of those asked; None when these are settled."""
        if asked not in self.found and asked not in self.left:
            self.begin(asked)
        while asked not in self.found:
            ways = self.left[asked]
            if not ways:
                self.found[asked] = None
                break
            ahead = ways[-1][2]
            unsettled = [told for told in ahead if told not in self.found]
            if [told for told in ahead if told in self.found and self.found[told] is None]:
                ways.pop()
            elif unsettled:
                return unsettled[0]
            else:
                self.found[asked] = ways[-1]
        return None

    def begin(self, asked):
        """Settles a row and a goal at first sight or lays out the ways to try."""
        row, goal = asked
        if not self.pool.agree(row, goal):
            self.found[asked] = None
        elif row == (goal,):
            self.found[asked] = ("is", None, [])
        else:
            ways = ways_back(self.pool, row, goal)
            sure = [way for way in ways if way[0] in _SURE]
            self.left[asked] = sure[:1] if sure else ways[::-1]

    def derivation(self, row, goal):
        """A derivation without cuts of a row that gives a goal, as holds has found."""
        return from_inside((row, goal), lambda asked: self.found[asked][2],
                           lambda told, parts: self.knot(told, parts))

    def knot(self, told, parts):
        """The last knot for a row and a goal, of the derivations in it."""
        name, place, _ = self.found[told]
        if name == "is":
            return ("is", self.pool.kinds[told[1]])
        if place is None:
            return (name, *parts)
        return (name, place, *parts)
