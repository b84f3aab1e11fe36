"""Many versions with one base: their merge, in all orders and in all groups."""

from itertools import permutations

from threeways.errors import BadVersions
from threeways.ways import is_value, outcome, require_value, require_way

GREATEST_COUNT = 5


def require_versions(value):
    """Raise BadVersions if a value is not a tuple of at most five values."""
    if not isinstance(value, tuple) or len(value) > GREATEST_COUNT:
        raise BadVersions(None)
    for index, version in enumerate(value):
        if not is_value(version):
            raise BadVersions(index)


def require_arguments(way, base, versions):
    """Raise the error for the first invalid one of the arguments that each function here takes."""
    require_way(way)
    require_value(base)
    require_versions(versions)


def merge_many(way, base, versions):
    """Return what comes if the versions are merged one after another, "refused" if a merge is refused."""
    require_arguments(way, base, versions)
    return merged_in_turn(way, base, versions)


def count_outcomes(way, base, versions):
    """Return how many unlike results come if the versions are taken in all orders."""
    require_arguments(way, base, versions)
    return len({merged_in_turn(way, base, order) for order in permutations(list(versions))})


def orders_agree(way, base, versions):
    """Return whether the versions give the same in all orders."""
    return count_outcomes(way, base, versions) == 1


def groups_agree(way, base, versions):
    """Return whether the versions in their order give the same however they are put into groups."""
    require_arguments(way, base, versions)
    return len(set(group_outcomes(way, base, versions))) == 1


def merged_in_turn(way, base, versions):
    """Return what merge_many returns, for arguments that are known to be right."""
    if versions == ():
        return base
    result = versions[0]
    for version in versions[1:]:
        result = outcome(way, base, result, version)
    return result


def group_outcomes(way, base, versions):
    """Return the list of what comes of the versions by all ways of putting them into groups."""
    if len(versions) < 2:
        return [merged_in_turn(way, base, versions)]
    found = []
    for cut in range(1, len(versions)):
        lefts = group_outcomes(way, base, versions[:cut])
        rights = group_outcomes(way, base, versions[cut:])
        found = found + [outcome(way, base, left, right) for left in lefts for right in rights]
    return found
