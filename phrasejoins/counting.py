"""The count of readings, over the numbers of a pool's types, all free of then."""


def head_and_waits(kind):
    """The head of a type and the lists of what it waits for, behind and ahead, nearest first."""
    behind, ahead = [], []
    head = kind
    while isinstance(head, tuple):
        if head[0] == "over":
            behind.append(head[2])
            head = head[1]
        else:
            ahead.append(head[1])
            head = head[2]
    return (head, behind, ahead)


class Counting:
    """How many readings of plain goals rows have; each row with its goal is counted once.

    While a count is tried, those that have to be made ahead of it are put into
    a list, needed, and taken for one: so all of them are found at one go.
    """

    def __init__(self, pool):
        self.pool = pool
        # By the number of a type: those of its head and of what it waits for.
        self.unfolded = {}
        # By the row and the number of the plain goal.
        self.counted = {}

    def many(self, row, goal):
        """How many readings of a goal a row has."""
        asked = self.plain_asked(row, goal)
        waiting = [asked]
        while waiting:
            needed = []
            count = self.count_tried(waiting[-1], needed)
            if needed:
                waiting.extend(needed)
            else:
                self.counted[waiting.pop()] = count
        return self.counted[asked]

    def unfold(self, number):
        """The numbers of a type's head and of what it waits for, behind and ahead, nearest first."""
        if number not in self.unfolded:
            head, behind, ahead = head_and_waits(self.pool.kinds[number])
            numbers = (self.pool.plain_number(head), self.pool.numbered(behind), self.pool.numbered(ahead))
            self.unfolded[number] = numbers
        return self.unfolded[number]

    def plain_asked(self, row, goal):
        """The row and the plain goal whose readings are those of a row and any goal."""
        head, behind, ahead = self.unfold(goal)
        return (ahead[::-1] + row + behind, head)

    def count_tried(self, asked, needed):
        """How many readings a row with a plain goal has."""
        row, goal = asked
        if asked in self.counted:
            return self.counted[asked]
        if not self.pool.agree(row, goal):
            return 0
        count = 0
        for place in range(len(row)):
            head, behind, ahead = self.unfold(row[place])
            if head == goal:
                many = self.many_cuts(row[place + 1:], behind, needed)
                count += many * self.many_cuts(row[:place], ahead[::-1], needed) if many else 0
        return count

    def many_cuts(self, row, goals, needed):
        """In how many ways a row is cut into one for each goal, none empty, each with a reading of its goal."""
        # By the end of what was cut off so far.
        ways = {0: 1}
        for index in range(len(goals)):
            ways = self.cut_on(row, goals, index, ways, needed)
        return ways.get(len(row), 0)

    def cut_on(self, row, goals, index, ways, needed):
        """The ways, by their ends, with one more row cut off for one more goal."""
        left = len(goals) - index - 1
        longer = {}
        for begin in ways:
            # What is cut off for the last goal is all that is left.
            nearest = begin + 1 if left else max(begin + 1, len(row))
            for end in range(nearest, len(row) - left + 1):
                many = self.many_from(row[begin:end], goals[index], needed)
                if many:
                    longer[end] = longer.get(end, 0) + ways[begin] * many
        return longer

    def many_from(self, row, goal, needed):
        """How many readings of any goal a row has."""
        if not self.pool.agree(row, goal):
            return 0
        asked = self.plain_asked(row, goal)
        if asked not in self.counted:
            needed.append(asked)
            return 1
        return self.counted[asked]
