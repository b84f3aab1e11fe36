"""Point 10: many versions, their orders and their groups."""

import unittest
from itertools import permutations, product

from tests.errors_case import ErrorsCase
from tests.reference import BREAKS, WAYS, plain_merge
from tests.samples import ALL_BASE, ALL_REFUSE, NO_VALUES, NO_VERSIONS, NO_WAYS, OWN, PLAIN
from threeways.errors import BadValue, BadVersions, BadWay
from threeways.many import count_outcomes, groups_agree, merge_many, orders_agree

FUNCTIONS = (merge_many, count_outcomes, orders_agree, groups_agree)

THEIRS = ("base", "mine", "yours", "mine", "yours")

# What stands for the integers 0 to 5 of a row: with the base first, None is a version once and a base once.
NAMES_OF_VALUES = ((7, None, 0, 999, 5, 1), (None, 0, 1, 2, 3, 999))


def rows_of(length):
    """Return a row for each way in which a base and versions, so many in all, can be the same or not."""
    rows = [(0,)]
    for _ in range(length - 1):
        rows = [row + (further,) for row in rows for further in range(max(row) + 2)]
    return rows


def arguments_of(rows):
    """Return pairs of a base and versions for each row."""
    named = [tuple(names[k] for k in row) for row in rows for names in NAMES_OF_VALUES]
    return [(row[0], row[1:]) for row in named]


SHORT = arguments_of(row for length in range(1, 5) for row in rows_of(length))
LONG = arguments_of(row for length in (5, 6) for row in rows_of(length))


def m(way, base, mine, yours):
    return "refused" if "refused" in (mine, yours) else plain_merge(way, base, mine, yours)


def in_turn(way, base, versions):
    """Merge versions one after another, told once more."""
    if len(versions) < 2:
        return versions[0] if versions else base
    return m(way, base, in_turn(way, base, versions[:-1]), versions[-1])


def in_groups(way, base, versions):
    """Return the set of what all groups give, told once more: two neighbours become one, in all orders."""
    if len(versions) < 2:
        return {versions[0] if versions else base}
    found = set()
    for k in range(len(versions) - 1):
        joined = m(way, base, versions[k], versions[k + 1])
        found |= in_groups(way, base, versions[:k] + (joined,) + versions[k + 2:])
    return found


def in_orders(way, base, versions):
    return {in_turn(way, base, order) for order in permutations(versions)}


class ManyCase(ErrorsCase):

    def assert_as_told(self, way, base, versions):
        with self.subTest(way=way, base=base, versions=versions):
            self.assertEqual(merge_many(way, base, versions), in_turn(way, base, versions))
            many = len(in_orders(way, base, versions))
            self.assertEqual(count_outcomes(way, base, versions), many)
            self.assertIs(orders_agree(way, base, versions), many == 1)
            self.assertIs(groups_agree(way, base, versions), len(in_groups(way, base, versions)) == 1)


class EveryWayTest(ManyCase):

    def test_up_to_three_versions(self):
        for way in WAYS:
            for base, versions in SHORT:
                self.assert_as_told(way, base, versions)

    def test_four_and_five_versions(self):
        for k, (base, versions) in enumerate(LONG):
            for way in (PLAIN, OWN, THEIRS, WAYS[k % 216], WAYS[k * 37 % 216]):
                self.assert_as_told(way, base, versions)


class MergeManyTest(ErrorsCase):

    def test_no_version_is_the_base(self):
        for way in WAYS:
            for base in (0, 7, 999, None):
                with self.subTest(way=way, base=base):
                    self.assertEqual(merge_many(way, base, ()), base)

    def test_one_version_is_that_version(self):
        for way in WAYS:
            for base, version in product((0, 999, None), repeat=2):
                with self.subTest(way=way, base=base, version=version):
                    self.assertEqual(merge_many(way, base, (version,)), version)

    def test_two_versions_are_merged(self):
        for way in WAYS:
            for base, mine, yours in product((None, 0, 5), repeat=3):
                with self.subTest(way=way, values=(base, mine, yours)):
                    self.assertEqual(merge_many(way, base, (mine, yours)), plain_merge(way, base, mine, yours))

    def test_what_came_is_mine_and_the_next_is_yours(self):
        self.assertEqual(merge_many(OWN, 0, (1, 2, 3, 4, 5)), 1)
        self.assertEqual(merge_many(THEIRS, 0, (1, 2, 3, 4, 5)), 5)
        self.assertEqual(merge_many(PLAIN, 0, (0, 0, 4, 0, 4)), 4)

    def test_the_base_stays(self):
        self.assertEqual(merge_many(OWN, 3, (1, 3, 3, 3, 2)), 1)
        self.assertEqual(merge_many(ALL_BASE, 3, (1, 2, 4, 5, 6)), 3)

    def test_refused_from_the_first_refusal_on(self):
        self.assertEqual(merge_many(PLAIN, 0, (1, 2, 1)), "refused")
        self.assertEqual(merge_many(PLAIN, 0, (1, 1, 2, 2, 2)), "refused")
        self.assertEqual(merge_many(PLAIN, 0, (1, 2, 0, 0, 0)), "refused")
        self.assertEqual(merge_many(("base", "mine", "yours", "base", "refuse"), 0, (1, 2, 2)), "refused")

    def test_none_is_a_version_and_a_base(self):
        self.assertIs(merge_many(PLAIN, 0, (0, None, 0)), None)
        self.assertIs(merge_many(PLAIN, None, (None, None)), None)
        self.assertEqual(merge_many(PLAIN, None, (None, 4, None)), 4)
        self.assertEqual(merge_many(PLAIN, 0, (None, 4)), "refused")


class OrdersTest(ErrorsCase):

    def test_some(self):
        rows = (
            (OWN, 0, (1, 2, 3), 3), (OWN, 0, (1, 2, 3, 4, 5), 5), (OWN, 0, (0, 1, 1), 1), (PLAIN, 0, (1, 2, 3), 1),
            (PLAIN, 0, (0, 4, 0, 4), 1), (OWN, 0, (None, 2), 2), (OWN, None, (None, 0, 1), 2), (ALL_REFUSE, 5, (1, 2), 1),
        )
        for way, base, versions, many in rows:
            with self.subTest(way=way, base=base, versions=versions):
                self.assertEqual(count_outcomes(way, base, versions), many)
                self.assertIs(type(count_outcomes(way, base, versions)), int)
                self.assertIs(orders_agree(way, base, versions), many == 1)

    def test_a_refusal_is_one_outcome(self):
        way = ("base", "mine", "yours", "base", "refuse")
        # 1 and 2 first are refused, 1 and 1 first are the base, to which 2 is added.
        self.assertEqual(count_outcomes(way, 0, (1, 1, 2)), 2)
        self.assertIs(orders_agree(way, 0, (1, 1, 2)), False)

    def test_no_version_and_one(self):
        for way in WAYS:
            for base in (None, 3):
                for versions in ((), (None,), (3,), (4,)):
                    with self.subTest(way=way, base=base, versions=versions):
                        self.assertEqual(count_outcomes(way, base, versions), 1)
                        self.assertIs(orders_agree(way, base, versions), True)
                        self.assertIs(groups_agree(way, base, versions), True)


class GroupsTest(ErrorsCase):

    def test_some(self):
        self.assertIs(groups_agree(OWN, 0, (1, 2, 3)), True)
        self.assertIs(groups_agree(OWN, 0, (1, 2)), True)
        # The two at the left give the base, and so do the two at the right.
        self.assertIs(groups_agree(("base", "mine", "yours", "mine", "base"), 0, (1, 2, 3)), False)

    def test_groups_of_two_on_both_sides(self):
        # Only (1 1)(2 2) gives the base, by a way that does so for two that are the same.
        way = ("base", "mine", "yours", "base", "refuse")
        self.assertEqual(in_groups(way, 0, (1, 1, 2, 2)), {0, "refused"})
        self.assertIs(groups_agree(way, 0, (1, 1, 2, 2)), False)

    def test_a_refusal_is_an_outcome(self):
        way = ("base", "mine", "yours", "base", "refuse")
        self.assertEqual(in_groups(way, 0, (1, 1, 2)), {2, "refused"})
        self.assertIs(groups_agree(way, 0, (1, 1, 2)), False)
        self.assertIs(groups_agree(PLAIN, 0, (1, 2, 3, 4, 5)), True)

    def test_a_pair_of_two_is_one_group(self):
        for way in WAYS:
            with self.subTest(way=way):
                self.assertIs(groups_agree(way, 0, (1, 2)), True)


class ChainAndFairTest(ErrorsCase):

    def test_by_a_way_that_keeps_chain_all_groups_agree(self):
        ways = [way for way in WAYS if BREAKS[way, "chain"] is None]
        for base, versions in SHORT + LONG[::2]:
            for way in ways:
                self.assertIs(groups_agree(way, base, versions), True, (way, base, versions))

    def test_if_it_keeps_fair_all_orders_agree_too(self):
        ways = [way for way in WAYS if BREAKS[way, "chain"] is None and BREAKS[way, "fair"] is None]
        for base, versions in SHORT + LONG[::2]:
            for way in ways:
                self.assertIs(orders_agree(way, base, versions), True, (way, base, versions))

    def test_without_chain_some_groups_do_not_agree(self):
        for way in WAYS:
            if BREAKS[way, "chain"] is not None:
                base, *versions = BREAKS[way, "chain"]
                self.assertIs(groups_agree(way, base, tuple(versions)), False, way)

    def test_without_fair_some_orders_do_not_agree(self):
        for way in WAYS:
            if BREAKS[way, "fair"] is not None:
                base, *versions = BREAKS[way, "fair"]
                self.assertIs(orders_agree(way, base, tuple(versions)), False, way)


class WrongArgumentsTest(ErrorsCase):

    def test_bad_versions(self):
        for function in FUNCTIONS:
            for versions, index in NO_VERSIONS:
                self.assert_fails_at(BadVersions, index, function, PLAIN, 0, versions)

    def test_five_are_not_too_many(self):
        for function in FUNCTIONS:
            function(PLAIN, None, (1, None, 2, 3, 999))
            self.assert_fails_at(BadVersions, None, function, PLAIN, None, (1, None, 2, 3, 999, 4))

    def test_wrong_versions_behind_a_refusal(self):
        for function in FUNCTIONS:
            self.assert_fails_at(BadVersions, 3, function, PLAIN, 0, (1, 2, 3, "4", True))

    def test_bad_base(self):
        for function in FUNCTIONS:
            for base in NO_VALUES:
                self.assert_fails(BadValue, function, PLAIN, base, ())
                self.assert_fails(BadValue, function, PLAIN, base, (1, "2"))
                self.assert_fails(BadValue, function, PLAIN, base, [1, 2])

    def test_bad_way(self):
        for function in FUNCTIONS:
            for way in NO_WAYS:
                self.assert_fails(BadWay, function, way, 0, ())
                self.assert_fails(BadWay, function, way, -1, (1, 2))
                self.assert_fails(BadWay, function, way, True, [True])


if __name__ == "__main__":
    unittest.main()
