"""Sets of promises: which ways keep them, which sets clash, and which way that keeps one is nearest."""

from threeways.errors import BadPromises
from threeways.promises import keeping, promises
from threeways.ways import all_ways, require_way


def require_promises(value):
    """Raise BadPromises if a value is not an ascending tuple of different promises."""
    if not isinstance(value, tuple) or value != tuple([name for name in promises() if name in value]):
        raise BadPromises("not an ascending tuple of different promises")


def keepers(wanted):
    """Return the ascending tuple of the ways that keep all wanted promises."""
    require_promises(wanted)
    ways = all_ways()
    for name in wanted:
        ways = keeping(ways, name)
    return tuple(ways)


def can_hold(wanted):
    """Return whether some way keeps all wanted promises."""
    return len(keepers(wanted)) > 0


def can_add(wanted):
    """Return the ascending tuple of the further promises that some way keeps beside all wanted ones."""
    ways = keepers(wanted)
    return tuple([name for name in promises() if name not in wanted and len(keeping(ways, name)) > 0])


def greatest_sets():
    """Return the ascending tuple of the sets of promises that some way keeps, and none with one more."""
    names = promises()
    return tuple(sorted([names_of(bits, names) for bits in greatest_among(names)]))


def least_clashes():
    """Return the tuple of all least clashes, the smaller ones first, those of one size ascending."""
    return clashes(promises())


def clashes(wanted):
    """Return the tuple of the least clashes that lie in wanted promises, in the order of least_clashes."""
    require_promises(wanted)
    # Promises clash if they lie in none of the greatest sets. What is found are the least ones that lie in
    # none of those gone through: whatever lies in the next one needs a promise beyond it.
    found = [0]
    for greatest in greatest_among(wanted):
        within = [bits for bits in found if lies_in(bits, greatest)]
        found = [bits for bits in found if not lies_in(bits, greatest)]
        longer = [bits | bit for bits in within for bit in bits_beyond(greatest, wanted)]
        # None of the longer ones lies in another, since none of those within did.
        found = found + [bits for bits in longer if not has_one_within(bits, found)]
    return tuple(sorted(sorted([names_of(bits, wanted) for bits in found]), key=len))


# A set of some of the names is an integer in the functions below, since comparing those is quick: its lowest
# bit is 1 if the first name is in the set, its next bit if the second one is, and so on.


def greatest_among(names):
    """Return the list of the greatest sets of promises among the names that some way keeps."""
    kept = kept_among(names)
    return [bits for bits in kept if len([other for other in kept if lies_in(bits, other)]) == 1]


def kept_among(names):
    """Return the list of the different sets that the ways keep of the promises among the names."""
    ways = all_ways()
    kept = {way: 0 for way in ways}
    for index, name in enumerate(names):
        for way in keeping(ways, name):
            kept[way] = kept[way] | (1 << index)
    return sorted(set(list(kept.values())))


def names_of(bits, names):
    """Return the tuple of those of the names that are in a set."""
    return tuple([name for index, name in enumerate(names) if (bits >> index) & 1])


def bits_beyond(bits, names):
    """Return the list of the sets of one name, for each of the names that is not in a set."""
    return [1 << index for index in range(len(names)) if not (bits >> index) & 1]


def lies_in(bits, others):
    """Return whether a set lies in another one."""
    return bits | others == others


def has_one_within(bits, sets):
    """Return whether one of the sets lies in a set."""
    return any(lies_in(one, bits) for one in sets)


def nearest(way, wanted):
    """Return the way that keeps all wanted promises with the fewest words unlike a way's, None if none does."""
    require_way(way)
    return min(keepers(wanted), key=lambda other: (count_unlike_words(way, other), other), default=None)


def count_unlike_words(way, other):
    """Return how many words two ways have that are not the same."""
    return sum(1 for word, other_word in zip(way, other) if word != other_word)
