"""Types with numbers, so that a search can keep what it knows under short keys."""

from phrasejoins.forms import folded
from phrasejoins.group import put_behind, signed_letters


class Pool:
    """Types, each with a number; a row is a tuple of such numbers."""

    def __init__(self):
        self.numbers = {}
        self.kinds = []
        self.shapes = []
        self.kind_letters = []
        self.row_letters = {}

    def number_of(self, kind):
        """The number of a type, a new one if it has none yet."""
        return folded(kind, lambda word: self.plain_number(word),
                      lambda sign, first, second: self.signed_number(sign, first, second))

    def plain_number(self, word):
        """The number of a plain type; its shape has no sign."""
        if word not in self.numbers:
            self.numbers[word] = len(self.kinds)
            self.kinds.append(word)
            self.shapes.append(("", None, None))
            self.kind_letters.append([(word, 1)])
        return self.numbers[word]

    def signed_number(self, sign, first, second):
        """The number of the type with a sign and two parts of these numbers."""
        shape = (sign, first, second)
        if shape not in self.numbers:
            self.numbers[shape] = len(self.kinds)
            self.kinds.append((sign, self.kinds[first], self.kinds[second]))
            self.shapes.append(shape)
            self.kind_letters.append(signed_letters(sign, self.kind_letters[first], self.kind_letters[second]))
        return self.numbers[shape]

    def numbered(self, row):
        """The tuple of the numbers of a row's types."""
        return tuple([self.number_of(kind) for kind in row])

    def row_of(self, numbers):
        """The list of the types with these numbers."""
        return [self.kinds[number] for number in numbers]

    def letters_of_numbers(self, numbers):
        """The letters of a row of numbers, reckoned once."""
        if numbers not in self.row_letters:
            letters = []
            for number in numbers:
                letters = put_behind(letters, self.kind_letters[number])
            self.row_letters[numbers] = letters
        return self.row_letters[numbers]

    def agree(self, numbers, goal):
        """Whether a row of numbers has the letters of a goal's number."""
        return self.letters_of_numbers(numbers) == self.kind_letters[goal]
