"""Which rows of the types of words give a goal."""

from phrasejoins.pool import Pool
from phrasejoins.search import Search


class Sentences:
    """Words with the numbers of their types, and a search that keeps what it has found."""

    def __init__(self, words, goal):
        self.pool = Pool()
        self.search = Search(self.pool)
        self.by_word = {word: self.pool.numbered(kinds) for word, kinds in words.items()}
        self.sought = self.pool.number_of(goal)

    def rows_of(self, sentence):
        """The list of all rows of numbers of one type of each word, by the positions of the types."""
        rows = [()]
        for word in sentence:
            rows = [row + (number,) for row in rows for number in self.by_word[word]]
        return rows

    def choices(self, sentence):
        """The list of those rows of types that give the goal."""
        return [self.pool.row_of(row) for row in self.rows_of(sentence) if self.search.holds(row, self.sought)]

    def is_let(self, sentence):
        """Whether one of those rows gives the goal."""
        for row in self.rows_of(sentence):
            if self.search.holds(row, self.sought):
                return True
        return False

    def all_let(self, number):
        """The ascending list of the sentences of so many words that are let."""
        sentences = [[]]
        for _ in range(number):
            sentences = [sentence + [word] for sentence in sentences for word in sorted(self.by_word)]
        return [sentence for sentence in sentences if self.is_let(sentence)]
