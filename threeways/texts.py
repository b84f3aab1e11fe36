"""The texts of ways and documents, written and read."""

from threeways.documents import is_document, require_document
from threeways.errors import InvalidText, NotText
from threeways.ways import GREATEST_INTEGER, is_way, require_way

DIGITS = "0123456789"


def require_text(value):
    """Raise NotText if a value is not a string."""
    if not isinstance(value, str):
        raise NotText("not a string")


def write_way(way):
    """Return the text of a way."""
    require_way(way)
    return " ".join(way)


def read_way(text):
    """Return the way that a text is of."""
    require_text(text)
    way = tuple(text.split(" "))
    if not is_way(way):
        raise InvalidText("not the text of a way")
    return way


def write_document(document):
    """Return the text of a document."""
    require_document(document)
    return pairs_text(document)


def pairs_text(pairs):
    """Return the text of pairs of names and integers, also of more than a document can have."""
    return " ".join([f"{name}={integer}" for name, integer in pairs])


def read_document(text):
    """Return the document that a text is of."""
    require_text(text)
    # Without this, the empty text would be split into one empty part.
    parts = text.split(" ") if text else []
    document = tuple([read_pair(part) for part in parts])
    if not is_document(document):
        raise InvalidText("not the text of a document")
    return document


def read_pair(text):
    """Return the pair that a text is of; what it returns for any other text stands in no document."""
    name, _, number = text.partition("=")
    return (name, read_integer(number))


def read_integer(text):
    """Return the integer from 0 to 999 that a text is without needless zeros, None if it is none."""
    # The length first: Python reads no integer of thousands of digits.
    if not 1 <= len(text) <= len(str(GREATEST_INTEGER)) or not all(sign in DIGITS for sign in text):
        return None
    integer = int(text)
    return integer if str(integer) == text else None
