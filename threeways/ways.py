"""Values, the 216 ways of merging three of them, and the merge itself."""

from threeways.errors import BadValue, BadWay

REFUSED = "refused"

GREATEST_INTEGER = 999

# The words of the five cases, in the order of a way's words. Each row is ascending, and so all_ways is.
WORDS = (
    ("base", "refuse"),
    ("base", "mine", "refuse"),
    ("base", "refuse", "yours"),
    ("base", "mine", "refuse"),
    ("base", "mine", "refuse", "yours"),
)

OTHER_SIDE = {"mine": "yours", "yours": "mine"}


def is_value(value):
    """Return whether a value may be merged: None or an integer from 0 to 999."""
    if value is None:
        return True
    return isinstance(value, int) and not isinstance(value, bool) and 0 <= value <= GREATEST_INTEGER


def require_value(value):
    """Raise BadValue if a value may not be merged."""
    if not is_value(value):
        raise BadValue("not a value: neither None nor an integer from 0 to 999")


def is_way(value):
    """Return whether a value is a way."""
    if not isinstance(value, tuple) or len(value) != len(WORDS):
        return False
    return all(word in words for word, words in zip(value, WORDS))


def require_way(value):
    """Raise BadWay if a value is not a way."""
    if not is_way(value):
        raise BadWay("not a way: no tuple of five words, each of them one of its case")


def all_ways():
    """Return the ascending tuple of all ways."""
    same, only_mine, only_yours, both, unlike = WORDS
    return tuple([
        (first, second, third, fourth, fifth)
        for first in same for second in only_mine for third in only_yours for fourth in both for fifth in unlike
    ])


def turned(way):
    """Return the way that merges as this one does if mine and yours change places."""
    require_way(way)
    same, only_mine, only_yours, both, unlike = way
    # The fourth word stays: mine and yours are the same value there, and "yours" is none of its words.
    return (same, turned_word(only_yours), turned_word(only_mine), both, turned_word(unlike))


def turned_word(word):
    """Return the word that names the same value if mine and yours change places."""
    return OTHER_SIDE.get(word, word)


def merge(way, base, mine, yours):
    """Return the merge of three values by a way, "refused" if it refuses."""
    require_way(way)
    for value in (base, mine, yours):
        require_value(value)
    return merged(way, base, mine, yours)


def merged(way, base, mine, yours):
    """Return what merge returns, for arguments that are known to be right."""
    if mine == base:
        word = way[0] if yours == base else way[2]
    elif yours == base:
        word = way[1]
    else:
        word = way[3] if mine == yours else way[4]
    if word == "base":
        return base
    if word == "mine":
        return mine
    if word == "yours":
        return yours
    return REFUSED


def outcome(way, base, mine, yours):
    """Return what merged returns, and "refused", too, if one of the three is itself a refused merge."""
    if REFUSED in (base, mine, yours):
        return REFUSED
    return merged(way, base, mine, yours)
