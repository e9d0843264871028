"""Books: words with their types, and the sentences that they let."""

from phrasejoins.checks import check_many
from phrasejoins.errors import InvalidBook, InvalidKind, InvalidSentence
from phrasejoins.forms import is_free, is_kind
from phrasejoins.giving import gives
from phrasejoins.sentences import Sentences
from phrasejoins.values import are_different, is_word


def _is_free_kind(value):
    """Whether any object is a type free of then."""
    return is_kind(value) and is_free(value)


def _are_kinds_of_word(value):
    """Whether any object is a list, not empty, of different types free of then."""
    if not isinstance(value, list) or not value or not all([_is_free_kind(kind) for kind in value]):
        return False
    return are_different(value)


def _are_words(value):
    """Whether any object is a dictionary, not empty, from words to their types."""
    if not isinstance(value, dict) or not value:
        return False
    return all([is_word(word) and _are_kinds_of_word(kinds) for word, kinds in value.items()])


class Book:
    """Words, each with its types, and a goal."""

    def __init__(self, words, goal):
        if not _are_words(words):
            raise InvalidBook(words)
        if not _is_free_kind(goal):
            raise InvalidKind(goal)
        self._words = {word: list(words[word]) for word in sorted(words)}
        self._goal = goal

    def words(self):
        """The words, each with its types."""
        return {word: list(self._words[word]) for word in self._words}

    def goal(self):
        """The goal."""
        return self._goal

    def __eq__(self, other):
        return isinstance(other, Book) and self._words == other._words and self._goal == other._goal


def _check_book(book):
    """Raises InvalidBook unless this is a book."""
    if not isinstance(book, Book):
        raise InvalidBook(book)


def _check_word(book, word):
    """Raises InvalidSentence unless this is a word of a book."""
    if not is_word(word) or word not in book.words():
        raise InvalidSentence(word)


def _check_sentence(book, sentence):
    """Raises InvalidSentence unless this is a list, not empty, of words of a book."""
    if not isinstance(sentence, list) or not sentence:
        raise InvalidSentence(sentence)
    words = book.words()
    if not all([is_word(word) and word in words for word in sentence]):
        raise InvalidSentence(sentence)


def _sentences_in(book):
    return Sentences(book.words(), book.goal())


def choices(book, sentence):
    """The list of all rows of one type of each word of a sentence that give the goal, by the types' positions."""
    _check_book(book)
    _check_sentence(book, sentence)
    return _sentences_in(book).choices(sentence)


def is_let(book, sentence):
    """Whether some row of one type of each word of a sentence gives the goal."""
    _check_book(book)
    _check_sentence(book, sentence)
    return _sentences_in(book).is_let(sentence)


def parting_goal(book, word, other):
    """A type of the other word that no type of the one word gives alone, None if there is none."""
    _check_book(book)
    _check_word(book, word)
    _check_word(book, other)
    words = book.words()
    for kind in words[other]:
        if not any([gives([mine], kind) for mine in words[word]]):
            return kind
    return None


def can_stand(book, word, other):
    """Whether a word can be put for another one wherever both have these types."""
    return parting_goal(book, word, other) is None


def sentences_of(book, number):
    """The ascending list of the sentences of so many words that are let."""
    _check_book(book)
    check_many(number, 4)
    return _sentences_in(book).all_let(number)


def many_sentences(book, number):
    """How many sentences of so many words are let."""
    return len(sentences_of(book, number))
