"""Documents: named integers, merged name by name."""

from threeways.errors import BadDocument
from threeways.ways import REFUSED, is_value, merged, require_way

GREATEST_COUNT = 12

GREATEST_LENGTH = 12

LETTERS = "abcdefghijklmnopqrstuvwxyz"


def is_name(value):
    """Return whether a value is a name: 1 to 12 small letters from a to z."""
    if not isinstance(value, str) or not 1 <= len(value) <= GREATEST_LENGTH:
        return False
    return all(letter in LETTERS for letter in value)


def is_pair(value):
    """Return whether a value is a pair of a name and an integer from 0 to 999."""
    if not isinstance(value, tuple) or len(value) != 2:
        return False
    name, integer = value
    return is_name(name) and integer is not None and is_value(integer)


def is_short_tuple(value):
    """Return whether a value is a tuple of no more items than a document has."""
    return isinstance(value, tuple) and len(value) <= GREATEST_COUNT


def first_wrong_index(items):
    """Return the index of the first item that makes a tuple no document, None if none does."""
    for index, item in enumerate(items):
        # The one before is a pair, or its own index had been returned.
        if not is_pair(item) or (index > 0 and item[0] <= items[index - 1][0]):
            return index
    return None


def is_document(value):
    """Return whether a value is a document."""
    return is_short_tuple(value) and first_wrong_index(value) is None


def require_document(value):
    """Raise BadDocument if a value is not a document."""
    if not is_short_tuple(value):
        raise BadDocument(None)
    index = first_wrong_index(value)
    if index is not None:
        raise BadDocument(index)


def merge_documents(way, base, mine, yours):
    """Return the pair of the merge of three documents and the names that were refused."""
    require_way(way)
    for document in (base, mine, yours):
        require_document(document)
    return merged_documents(way, base, mine, yours)


def merged_documents(way, base, mine, yours):
    """Return what merge_documents returns, for arguments that are known to be right."""
    old, my, your = dict(base), dict(mine), dict(yours)
    names = names_in([base, mine, yours])
    results = [(name, merged(way, old.get(name), my.get(name), your.get(name))) for name in names]
    pairs = tuple([(name, result) for name, result in results if result is not None and result != REFUSED])
    return (pairs, tuple([name for name, result in results if result == REFUSED]))


def names_in(documents):
    """Return the ascending list of the names that stand in at least one of the documents."""
    return sorted({pair[0] for document in documents for pair in document})


def changed_names(one, other):
    """Return the ascending tuple of the names whose values are not the same in two documents."""
    require_document(one)
    require_document(other)
    first, second = dict(one), dict(other)
    return tuple([name for name in names_in([one, other]) if first.get(name) != second.get(name)])
