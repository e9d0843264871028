"""Texts of types and rows, and the types and rows that texts are of."""

from phrasejoins.checks import check_row
from phrasejoins.errors import InvalidPaper
from phrasejoins.forms import check_kind, folded, is_kind

_BETWEEN = ", "
_LINE_END = "\n"


def _text_of(kind):
    """The text of a type."""
    return folded(kind, lambda word: word, lambda sign, first, second: f"({first} {sign} {second})")


def kind_text(kind):
    """The text of a type."""
    check_kind(kind)
    return _text_of(kind)


def _put_together(text):
    """What the words of a text come to if at each closing bracket the last four things are taken for a type."""
    read = []
    for part in text.replace("(", "( ").replace(")", " )").split(" "):
        if part != ")":
            read.append(part)
        elif len(read) < 4:
            return None
        else:
            _, first, sign, second = read[-4:]
            del read[-4:]
            read.append((sign, first, second))
    return read[0] if len(read) == 1 else None


def kind_told(text):
    """The type with a text, None if the text is of no type."""
    kind = _put_together(text)
    # Writing it again shows whatever the text has too much, too little or elsewhere.
    return kind if is_kind(kind) and _text_of(kind) == text else None


def _kinds_told(text, between):
    """The list of the types with texts that stand in a text, this between them; InvalidPaper if there are none such."""
    if not isinstance(text, str):
        raise InvalidPaper(text)
    kinds = [kind_told(part) for part in text.split(between)]
    if None in kinds:
        raise InvalidPaper(text)
    return kinds


def read_kind(text):
    """The type with a text."""
    kind = kind_told(text) if isinstance(text, str) else None
    if kind is None:
        raise InvalidPaper(text)
    return kind


def row_text(row):
    """The texts of the types of a row, with commas and blanks between them."""
    check_row(row)
    return _BETWEEN.join([_text_of(kind) for kind in row])


def read_row(text):
    """The row with a text."""
    return _kinds_told(text, _BETWEEN)


def kinds_text(kinds):
    """The texts of the types of a row, a line each."""
    check_row(kinds)
    return _LINE_END.join([_text_of(kind) for kind in kinds])


def read_kinds(text):
    """The row with a text of lines."""
    return _kinds_told(text, _LINE_END)
