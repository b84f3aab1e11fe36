"""The twelve promises: which of them a way keeps, and the least values that break the others.

The letters o, a, b and c are those of the document: base o, mine a, yours b, and a further value c.
"""

from threeways.errors import BadPromise
from threeways.ways import REFUSED, merged, outcome, require_way

# The letters in the line of each promise, in the order of a counterexample's values.
LETTERS = {
    "again": "oab",
    "agreed": "oa",
    "ahead": "oab",
    "back": "oab",
    "chain": "oabc",
    "fair": "oab",
    "made": "oab",
    "mine": "oa",
    "quiet": "o",
    "steps": "oabc",
    "told": "oab",
    "yours": "ob",
}


# Each of the next twelve functions returns whether the line of its promise is so for these values.
# None of the values is a refused merge. So only what goes over a merge needs outcome instead of merged.


def holds_again(way, o, a, b):
    first = merged(way, o, a, b)
    return outcome(way, o, first, b) == first


def holds_agreed(way, o, a):
    return merged(way, o, a, a) == a


def holds_ahead(way, o, a, b):
    return o in (a, b) or merged(way, o, a, b) != o


def holds_back(way, o, a, b):
    first = merged(way, o, a, b)
    return first == REFUSED or merged(way, a, first, o) == b


def holds_chain(way, o, a, b, c):
    left = outcome(way, o, merged(way, o, a, b), c)
    right = outcome(way, o, a, merged(way, o, b, c))
    return left == right


def holds_fair(way, o, a, b):
    return merged(way, o, a, b) == merged(way, o, b, a)


def holds_made(way, o, a, b):
    return merged(way, o, a, b) != REFUSED


def holds_mine(way, o, a):
    return merged(way, o, a, o) == a


def holds_quiet(way, o):
    return merged(way, o, o, o) == o


def holds_steps(way, o, a, b, c):
    first = merged(way, o, a, b)
    return first == REFUSED or merged(way, b, first, c) == merged(way, o, a, c)


def holds_told(way, o, a, b):
    return o in (a, b) or a == b or merged(way, o, a, b) == REFUSED


def holds_yours(way, o, b):
    return merged(way, o, o, b) == b


RULES = {
    "again": holds_again,
    "agreed": holds_agreed,
    "ahead": holds_ahead,
    "back": holds_back,
    "chain": holds_chain,
    "fair": holds_fair,
    "made": holds_made,
    "mine": holds_mine,
    "quiet": holds_quiet,
    "steps": holds_steps,
    "told": holds_told,
    "yours": holds_yours,
}


def promises():
    """Return the ascending tuple of the names of all promises."""
    return tuple(sorted(RULES))


def require_promise(value):
    """Raise BadPromise if a value is not the name of a promise."""
    if value not in promises():
        raise BadPromise("not the name of a promise")


def count_values(promise):
    """Return how many values the line of a promise has."""
    require_promise(promise)
    return len(LETTERS[promise])


def keeps(way, promise):
    """Return whether a way keeps a promise for all values."""
    return counterexample(way, promise) is None


def counterexample(way, promise):
    """Return the least tuple of integers that breaks a promise, None if the way keeps it."""
    require_way(way)
    require_promise(promise)
    return first_break(way, promise, least_tuples(len(LETTERS[promise])))


def profile(way):
    """Return the ascending tuple of the promises that a way keeps."""
    return tuple([promise for promise in promises() if keeps(way, promise)])


def keeping(ways, promise):
    """Return the list of those of the ways, known to be right, that keep a promise, in their order."""
    holds = RULES[promise]
    kept = list(ways)
    for values in least_tuples(len(LETTERS[promise])):
        kept = [way for way in kept if holds(way, *values)]
    return kept


def first_break(way, promise, tuples):
    """Return the first of the tuples of values that breaks a promise, None if none does."""
    holds = RULES[promise]
    for values in tuples:
        if not holds(way, *values):
            return values
    return None


def least_tuples(count):
    """Return, ascending, the least of all tuples of so many integers with the same items alike.

    A way treats all values alike. So if any values break a promise, the least ones that are alike
    in the same places break it, too: no others need be tried, and the first to break it is the least.
    """
    tuples = [()]
    for _ in range(count):
        tuples = [values + (further,) for values in tuples for further in range(len(set(values)) + 1)]
    return tuples
