"""Sets of promises: which ways keep them, which sets clash, and which way that keeps one is nearest."""

from threeways.errors import BadPromises
from threeways.promises import keeping, promises
from threeways.ways import all_ways, require_way


def require_promises(value):
    """Raise BadPromises if a value is not an ascending tuple of different promises."""
    if not isinstance(value, tuple) or value != tuple([name for name in promises() if name in value]):
        raise BadPromises("not an ascending tuple of different promises")


def keepers(wanted):
    """Return the ascending tuple of the ways that keep all wanted promises."""
    require_promises(wanted)
    ways = all_ways()
    for name in wanted:
        ways = keeping(ways, name)
    return tuple(ways)


def can_hold(wanted):
    """Return whether some way keeps all wanted promises."""
    return len(keepers(wanted)) > 0


def can_add(wanted):
    """Return the ascending tuple of the further promises that some way keeps beside all wanted ones."""
    ways = keepers(wanted)
    return tuple([name for name in promises() if name not in wanted and len(keeping(ways, name)) > 0])


def greatest_sets():
    """Return the ascending tuple of the sets of promises that some way keeps, and none with one more."""
    return greatest_among(promises())


def greatest_among(names):
    """Return the ascending tuple of the greatest sets of some promises, the names, that some way keeps."""
    kept = kept_among(names)
    return tuple([one for one in kept if not lies_in_another(one, kept)])


def kept_among(names):
    """Return the ascending list of the different sets that the ways keep of some promises, the names."""
    ways = all_ways()
    kept = {way: () for way in ways}
    for name in names:
        for way in keeping(ways, name):
            kept[way] = kept[way] + (name,)
    return sorted(set(list(kept.values())))


def lies_in(names, others):
    """Return whether all of the names are among the others."""
    return all(name in others for name in names)


def lies_in_one(names, sets):
    """Return whether the names lie in one of the sets."""
    return any(lies_in(names, others) for others in sets)


def lies_in_another(names, sets):
    """Return whether the names lie in one of the sets that is not just the names."""
    return any(lies_in(names, others) for others in sets if others != names)


def has_one_within(names, sets):
    """Return whether one of the sets lies in the names."""
    return any(lies_in(others, names) for others in sets)


def least_clashes():
    """Return the tuple of all least clashes, the smaller ones first, those of one size ascending."""
    return clashes(promises())


def clashes(wanted):
    """Return the tuple of the least clashes that lie in wanted promises, in the order of least_clashes."""
    require_promises(wanted)
    greatest = greatest_among(wanted)
    found = []
    kept = [()]
    while kept:
        # Each part of a least clash is kept, so each one is a kept set with a promise added behind it.
        longer = [names + (name,) for names in kept for name in names_behind(names, wanted)]
        kept = [names for names in longer if lies_in_one(names, greatest)]
        clashing = [names for names in longer if not lies_in_one(names, greatest)]
        # The smaller ones have been found before, so what has none of them within is a least one.
        found = found + [names for names in clashing if not has_one_within(names, found)]
    return tuple(found)


def names_behind(names, others):
    """Return the list of those of the others that come behind each of the ascending names."""
    return [other for other in others if names == () or names[-1] < other]


def nearest(way, wanted):
    """Return the way that keeps all wanted promises with the fewest words unlike a way's, None if none does."""
    require_way(way)
    return min(keepers(wanted), key=lambda other: (count_unlike_words(way, other), other), default=None)


def count_unlike_words(way, other):
    """Return how many words two ways have that are not the same."""
    return sum(1 for word, other_word in zip(way, other) if word != other_word)
