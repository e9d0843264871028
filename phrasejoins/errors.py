"""The errors of the package."""


class PhraseError(ValueError):
    """What all errors of the package are derived from."""


class InvalidKind(PhraseError):
    """Raised for an argument that has to be a type."""

    def __init__(self, value=None):
        self.value = value


class InvalidRow(PhraseError):
    """Raised for an argument that has to be a list of types."""

    def __init__(self, value=None):
        self.value = value


class InvalidPlains(PhraseError):
    """Raised for an argument that has to be an ascending list, not empty, of words."""

    def __init__(self, value=None):
        self.value = value


class InvalidMap(PhraseError):
    """Raised for an argument that has to be a dictionary from just some plain types to types."""

    def __init__(self, value=None):
        self.value = value


class InvalidCount(PhraseError):
    """Raised for an argument that has to be a count."""

    def __init__(self, value=None):
        self.value = value


class InvalidPlace(PhraseError):
    """Raised for an argument that has to be a place."""

    def __init__(self, value=None):
        self.value = value


class InvalidDerivation(PhraseError):
    """Raised for an argument that has to be a derivation."""

    def __init__(self, value=None):
        self.value = value


class InvalidLetters(PhraseError):
    """Raised for an argument that has to be letters."""

    def __init__(self, value=None):
        self.value = value


class InvalidWord(PhraseError):
    """Raised for an argument that has to be "over", "under" or "then"."""

    def __init__(self, value=None):
        self.value = value


class InvalidTurns(PhraseError):
    """Raised for an argument that has to be turns of plain types."""

    def __init__(self, value=None):
        self.value = value


class InvalidChain(PhraseError):
    """Raised for an argument that has to be a chain."""

    def __init__(self, value=None):
        self.value = value


class InvalidWorld(PhraseError):
    """Raised for an argument that has to be a world."""

    def __init__(self, value=None):
        self.value = value


class InvalidTable(PhraseError):
    """Raised for an argument that has to be a table of a world."""

    def __init__(self, value=None):
        self.value = value


class InvalidLots(PhraseError):
    """Raised for an argument that has to be lots of a world."""

    def __init__(self, value=None):
        self.value = value


class InvalidBook(PhraseError):
    """Raised for an argument that has to be a book."""

    def __init__(self, value=None):
        self.value = value


class InvalidSentence(PhraseError):
    """Raised for an argument that has to be a sentence."""

    def __init__(self, value=None):
        self.value = value


class InvalidDesk(PhraseError):
    """Raised for an argument that has to be a desk."""

    def __init__(self, value=None):
        self.value = value


class InvalidScript(PhraseError):
    """Raised for an argument that has to be a script."""

    def __init__(self, value=None):
        self.value = value


class InvalidPaper(PhraseError):
    """Raised for an argument that has to be a text that a writer makes."""

    def __init__(self, value=None):
        self.value = value


class InvalidRecord(PhraseError):
    """Raised for an argument that has to be a record of a desk."""

    def __init__(self, value=None):
        self.value = value


class Refused(PhraseError):
    """Raised for an argument that is what it has to be, but cannot be done as it stands."""

    def __init__(self, value=None):
        self.value = value


class NothingToUndo(PhraseError):
    """Raised where nothing stands that could be undone."""


class NothingToRedo(PhraseError):
    """Raised where nothing was undone that could be made again."""
