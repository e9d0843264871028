"""Point [5]: the classes of errors."""

import unittest

from phrasejoins import errors

WITH_VALUE = [
    "InvalidKind", "InvalidRow", "InvalidPlains", "InvalidMap", "InvalidCount", "InvalidPlace", "InvalidDerivation",
    "InvalidLetters", "InvalidWord", "InvalidTurns", "InvalidChain", "InvalidWorld", "InvalidTable", "InvalidLots",
    "InvalidBook", "InvalidSentence", "InvalidDesk", "InvalidScript", "InvalidPaper", "InvalidRecord", "Refused",
]
WITHOUT = ["NothingToUndo", "NothingToRedo"]


class Errors(unittest.TestCase):
    def test_base_classes(self):
        self.assertTrue(issubclass(errors.PhraseError, ValueError))
        classes = [getattr(errors, name) for name in WITH_VALUE + WITHOUT]
        for one in classes:
            self.assertEqual(one.__bases__, (errors.PhraseError,))
            for other in classes:
                self.assertEqual(issubclass(one, other), one is other)

    def test_value_is_kept(self):
        for name in WITH_VALUE:
            made = getattr(errors, name)
            for value in [None, [], {}, ("over", "n"), "n", object()]:
                self.assertIs(made(value).value, value)
                self.assertIs(made(value=value).value, value)
            self.assertIsNone(made().value)

    def test_made_of_nothing(self):
        for made in [errors.PhraseError, errors.NothingToUndo, errors.NothingToRedo]:
            self.assertFalse(hasattr(made(), "value"))
            with self.assertRaises(errors.PhraseError):
                raise made()

    def test_raised_and_caught(self):
        for name in WITH_VALUE:
            made = getattr(errors, name)
            value = [name]
            with self.assertRaises(ValueError) as caught:
                raise made(value)
            self.assertIs(type(caught.exception), made)
            self.assertIs(caught.exception.value, value)


if __name__ == "__main__":
    unittest.main()
