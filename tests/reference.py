"""What the document says, told once more and as bluntly as possible, for the tests to compare with.

Nothing here uses the package: ways are tables of all merges of 0 to 3, promises are tried with all
tuples of 0 to 3, and sets of promises are numbers whose bits stand for the promises.
"""

from itertools import product

WAYS = tuple(sorted(product(
    ("base", "refuse"),
    ("base", "mine", "refuse"),
    ("base", "yours", "refuse"),
    ("base", "mine", "refuse"),
    ("base", "mine", "yours", "refuse"),
)))

NAMES = (
    "again", "agreed", "ahead", "back", "chain", "fair", "made", "mine", "quiet", "steps", "told", "yours",
)


def plain_merge(way, base, mine, yours):
    """Merge by the words of point 3, case by case."""
    if base == mine and mine == yours:
        word = way[0]
    elif mine != base and yours == base:
        word = way[1]
    elif yours != base and mine == base:
        word = way[2]
    elif mine == yours and mine != base:
        word = way[3]
    else:
        word = way[4]
    return {"base": base, "mine": mine, "yours": yours, "refuse": "refused"}[word]


def merges(way):
    """Return m of point 5 for one way, by a table."""
    table = {row: plain_merge(way, *row) for row in product(range(4), repeat=3)}
    return lambda o, a, b: "refused" if "refused" in (o, a, b) else table[o, a, b]


def unlike(*values):
    return len(set(values)) == len(values)


LINES = {
    "again": ("oab", lambda m, o, a, b: m(o, m(o, a, b), b) == m(o, a, b)),
    "agreed": ("oa", lambda m, o, a: m(o, a, a) == a),
    "ahead": ("oab", lambda m, o, a, b: m(o, a, b) != o if a != o and b != o else True),
    "back": ("oab", lambda m, o, a, b: m(a, m(o, a, b), o) == b if m(o, a, b) != "refused" else True),
    "chain": ("oabc", lambda m, o, a, b, c: m(o, m(o, a, b), c) == m(o, a, m(o, b, c))),
    "fair": ("oab", lambda m, o, a, b: m(o, a, b) == m(o, b, a)),
    "made": ("oab", lambda m, o, a, b: m(o, a, b) != "refused"),
    "mine": ("oa", lambda m, o, a: m(o, a, o) == a),
    "quiet": ("o", lambda m, o: m(o, o, o) == o),
    "steps": ("oabc", lambda m, o, a, b, c: m(b, m(o, a, b), c) == m(o, a, c) if m(o, a, b) != "refused" else True),
    "told": ("oab", lambda m, o, a, b: m(o, a, b) == "refused" if unlike(o, a, b) else True),
    "yours": ("ob", lambda m, o, b: m(o, o, b) == b),
}


def least_break(way, name):
    """Return the least tuple of integers from 0 to 3 that breaks a promise, or None."""
    m = merges(way)
    letters, line = LINES[name]
    for values in product(range(4), repeat=len(letters)):
        if not line(m, *values):
            return values
    return None


BREAKS = {(way, name): least_break(way, name) for way in WAYS for name in NAMES}

KEPT_BITS = {
    way: sum(1 << k for k, name in enumerate(NAMES) if BREAKS[way, name] is None) for way in WAYS
}

ALL_BITS = tuple(range(1 << len(NAMES)))


def names_of(bits):
    return tuple(name for k, name in enumerate(NAMES) if bits >> k & 1)


WAYS_OF_BITS = [tuple(way for way in WAYS if KEPT_BITS[way] & bits == bits) for bits in ALL_BITS]

LEAST_CLASH_BITS = [
    bits for bits in ALL_BITS
    if not WAYS_OF_BITS[bits]
    and all(WAYS_OF_BITS[bits ^ 1 << k] for k in range(len(NAMES)) if bits >> k & 1)
]

LEAST_CLASHES = tuple(sorted((names_of(bits) for bits in LEAST_CLASH_BITS), key=lambda names: (len(names), names)))

GREATEST_SETS = tuple(sorted(
    names_of(bits) for bits in ALL_BITS
    if WAYS_OF_BITS[bits]
    and not any(WAYS_OF_BITS[bits | 1 << k] for k in range(len(NAMES)) if not bits >> k & 1)
))


def additions(bits):
    return tuple(
        name for k, name in enumerate(NAMES) if not bits >> k & 1 and WAYS_OF_BITS[bits | 1 << k]
    )


def nearest_way(way, bits):
    """Return the nearest way by trying 0, 1, .. 5 unlike words in turn."""
    for many in range(6):
        for other in WAYS_OF_BITS[bits]:
            if [one == two for one, two in zip(way, other)].count(False) == many:
                return other
    return None
