"""phrasejoins.books: points [36] to [38], and what [2] says of books."""

import itertools
import unittest

from phrasejoins.books import Book, can_stand, choices, is_let, many_sentences, parting_goal, sentences_of
from phrasejoins.errors import InvalidBook, InvalidKind
from phrasejoins.giving import gives
from tests.samples import BOOK, GOES, OBJECTS, RAISED, SEES, slow_gives

P_OVER = ("over", "p", "p")
P_UNDER = ("under", "p", "p")
# Each word with two types, of which more than one choice may give the goal.
TWO_WAYS = Book({"ab": ["p", P_OVER], "c": [P_UNDER, "p"], "d": [("over", "p", P_OVER), ("under", P_OVER, "p")]}, "p")


def slow_choices(book, sentence):
    rows = [list(row) for row in itertools.product(*[book.words()[word] for word in sentence])]
    return [row for row in rows if slow_gives(tuple(row), book.goal(), {})]


class Books(unittest.TestCase):
    def test_what_is_let(self):
        self.assertIs(is_let(BOOK, ["ann", "see", "ann"]), True)
        self.assertIs(is_let(BOOK, ["ann", "see", "ann", "ann"]), False)
        self.assertIs(is_let(BOOK, ["run"]), False)
        self.assertIs(is_let(Book({"a": ["n", "s"]}, "s"), ["a"]), True)

    def test_choices_are_in_order(self):
        self.assertEqual(choices(BOOK, ["ann", "see"]), [["n", GOES]])
        self.assertEqual(choices(BOOK, ["ann", "ann"]), [])
        # Both types of the word let the sentence.
        book = Book({"all": ["n", RAISED], "run": [GOES]}, "s")
        self.assertEqual(choices(book, ["all", "run"]), [["n", GOES], [RAISED, GOES]])
        turned = Book({"all": [RAISED, "n"], "run": [GOES]}, "s")
        self.assertEqual(choices(turned, ["all", "run"]), [[RAISED, GOES], ["n", GOES]])
        self.assertEqual(choices(TWO_WAYS, ["ab", "c"]), [["p", P_UNDER], [P_OVER, "p"]])

    def test_choices_of_all_sentences(self):
        for book in [BOOK, TWO_WAYS]:
            for number in [1, 2, 3]:
                let = []
                for sentence in itertools.product(sorted(book.words()), repeat=number):
                    rows = choices(book, list(sentence))
                    self.assertEqual(rows, slow_choices(book, sentence))
                    self.assertIs(is_let(book, list(sentence)), rows != [])
                    if rows:
                        let.append(list(sentence))
                self.assertEqual(sentences_of(book, number), let)
                self.assertEqual(many_sentences(book, number), len(let))

    def test_sentences_of_four_words(self):
        book = Book({"a": [P_OVER, P_UNDER], "b": ["p"]}, "p")
        self.assertEqual(sentences_of(book, 4), [list(word) for word in ["aaab", "aaba", "abaa", "baaa"]])
        self.assertEqual([many_sentences(book, number) for number in [1, 2, 3, 4]], [1, 2, 3, 4])
        self.assertEqual(sentences_of(book, 1), [["b"]])
        self.assertEqual([sentences_of(BOOK, 4), many_sentences(BOOK, 4)], [[], 0])

    def test_a_word_for_another(self):
        for book in [BOOK, TWO_WAYS]:
            words = book.words()
            for word, other in itertools.product(words, words):
                can = all(any(gives([mine], kind) for mine in words[word]) for kind in words[other])
                self.assertIs(can_stand(book, word, other), can)
                goal = parting_goal(book, word, other)
                self.assertIs(goal is None, can)
                if goal is not None:
                    self.assertIn(goal, words[other])
                    parted = Book(words, goal)
                    self.assertEqual([is_let(parted, [other]), is_let(parted, [word])], [True, False])
                for number in [1, 2, 3]:
                    for sentence in sentences_of(book, number) if can else []:
                        for place in range(number):
                            if sentence[place] == other:
                                self.assertTrue(is_let(book, sentence[:place] + [word] + sentence[place + 1:]))

    def test_a_word_for_itself(self):
        for word in BOOK.words():
            self.assertIs(can_stand(BOOK, word, word), True)
            self.assertIsNone(parting_goal(BOOK, word, word))

    def test_the_later_type_parts(self):
        book = Book({"a": ["n"], "b": ["n", RAISED, "s"], "c": ["s", "n"]}, "s")
        self.assertEqual(parting_goal(book, "a", "b"), "s")
        self.assertIs(can_stand(book, "c", "b"), True)
        self.assertEqual(parting_goal(book, "b", "c"), None)
        self.assertEqual(parting_goal(book, "a", "c"), "s")

    def test_what_a_book_tells(self):
        words = {"see": [SEES, GOES], "ann": ["n"]}
        book = Book(words, "s")
        self.assertEqual([book.words(), book.goal()], [words, "s"])
        self.assertEqual(list(book.words()), ["ann", "see"])
        self.assertEqual(book.words()["see"], [SEES, GOES])

    def test_equal_books(self):
        words = {"see": [SEES, GOES], "ann": ["n"]}
        self.assertTrue(Book(words, "s") == Book({"ann": ["n"], "see": [SEES, GOES]}, "s"))
        for other in [
            Book({"ann": ["n"], "see": [GOES, SEES]}, "s"), Book(words, "n"), Book({"ann": ["n"]}, "s"),
            Book({"ann": ["n"], "see": [SEES]}, "s"), Book({**words, "run": [GOES]}, "s"),
            Book({"ann": ["n"], "sees": [SEES, GOES]}, "s"), words, (words, "s"), None, "s", True,
        ] + OBJECTS:
            self.assertFalse(Book(words, "s") == other)
            self.assertFalse(other == Book(words, "s"))
            self.assertTrue(Book(words, "s") != other)

    def test_books_never_change(self):
        kinds = [SEES, GOES]
        words = {"see": kinds, "ann": ["n"]}
        book, kept = Book(words, "s"), Book(words, "s")
        kinds.append("n")
        words["ann"] = ["s"]
        words["run"] = [GOES]
        self.assertTrue(book == kept)
        told = book.words()
        told["see"].clear()
        del told["ann"]
        self.assertEqual(book.words(), {"ann": ["n"], "see": [SEES, GOES]})
        rows = choices(book, ["ann", "see"])
        rows[0].clear()
        let = sentences_of(book, 2)
        let[0].clear()
        self.assertEqual(choices(book, ["ann", "see"]), [["n", GOES]])
        self.assertEqual(sentences_of(book, 2), [["ann", "see"]])

    def test_wrong_words_and_goal(self):
        with self.assertRaises(InvalidBook):
            Book({"ann": [("then", "n", "n")]}, ("then", "n", "n"))
        with self.assertRaises(InvalidKind) as caught:
            Book({"ann": ["n"]}, ("then", "n", "n"))
        self.assertEqual(caught.exception.value, ("then", "n", "n"))


if __name__ == "__main__":
    unittest.main()
