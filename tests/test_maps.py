"""Points 7, 8 and 9: sets of promises, their clashes, and the nearest way."""

import sys
import unittest

from tests.errors_case import ErrorsCase
from tests.reference import (
    ALL_BITS, GREATEST_SETS, LEAST_CLASHES, NAMES, WAYS, WAYS_OF_BITS, additions, names_of, nearest_way,
)
from tests.samples import ALL_BASE, ALL_REFUSE, NO_WANTED, NO_WAYS, OWN, PLAIN
from threeways.errors import BadPromises, BadWay
from threeways.maps import can_add, can_hold, clashes, greatest_sets, keepers, least_clashes, nearest
from threeways.promises import profile

# As the document lists them, in its order.
LISTED_CLASHES = (
    ("agreed", "back"),
    ("back", "made"),
    ("made", "told"),
    ("again", "back", "mine"),
    ("again", "back", "yours"),
    ("ahead", "fair", "made"),
    ("fair", "made", "steps"),
    ("again", "fair", "made", "mine"),
    ("again", "fair", "made", "yours"),
    ("again", "fair", "mine", "steps"),
    ("again", "fair", "steps", "yours"),
    ("again", "mine", "steps", "yours"),
    ("again", "steps", "told", "yours"),
    ("agreed", "fair", "mine", "steps"),
    ("agreed", "fair", "steps", "yours"),
    ("agreed", "mine", "steps", "told"),
    ("agreed", "mine", "steps", "yours"),
    ("agreed", "steps", "told", "yours"),
    ("chain", "fair", "made", "mine"),
    ("chain", "fair", "made", "yours"),
    ("made", "mine", "steps", "yours"),
)

LISTED_GREATEST = (
    ("again", "agreed", "ahead", "chain", "fair", "mine", "quiet", "told", "yours"),
    ("again", "agreed", "ahead", "chain", "fair", "quiet", "steps", "told"),
    ("again", "agreed", "ahead", "chain", "made", "mine", "quiet", "steps"),
    ("again", "agreed", "ahead", "chain", "made", "mine", "quiet", "yours"),
    ("again", "agreed", "ahead", "chain", "made", "quiet", "steps", "yours"),
    ("again", "agreed", "chain", "fair", "made", "quiet"),
    ("again", "ahead", "back", "chain", "fair", "quiet", "steps", "told"),
    ("again", "ahead", "chain", "mine", "quiet", "steps", "told"),
    ("agreed", "fair", "made", "mine", "quiet", "yours"),
    ("ahead", "back", "chain", "fair", "mine", "quiet", "steps", "told", "yours"),
)


# A third of the calls within one call of least_clashes() when it tried all sets one promise longer.
MOST_CALLS = 70_000


def count_calls(function):
    """Return how many calls one call of a function makes: how long it takes, without a clock."""
    calls = []

    def note(_frame, event, _what):
        if event in ("call", "c_call"):
            calls.append(event)

    sys.setprofile(note)
    try:
        function()
    finally:
        sys.setprofile(None)
    return len(calls)


class AllSetsTest(unittest.TestCase):
    """All 4,096 sets of promises, each compared with the reference."""

    def test_keepers_and_can_hold(self):
        for bits in ALL_BITS:
            wanted = names_of(bits)
            self.assertEqual(keepers(wanted), WAYS_OF_BITS[bits], wanted)
            self.assertIs(can_hold(wanted), len(WAYS_OF_BITS[bits]) > 0, wanted)

    def test_can_add(self):
        for bits in ALL_BITS:
            wanted = names_of(bits)
            self.assertEqual(can_add(wanted), additions(bits), wanted)

    def test_clashes(self):
        for bits in ALL_BITS:
            wanted = names_of(bits)
            listed = tuple(clash for clash in LISTED_CLASHES if set(clash) <= set(wanted))
            self.assertEqual(clashes(wanted), listed, wanted)
            self.assertEqual(listed == (), len(WAYS_OF_BITS[bits]) > 0, wanted)

    def test_nearest_to_some_ways(self):
        for way in (PLAIN, ALL_BASE, ("refuse", "mine", "refuse", "refuse", "yours")):
            for bits in ALL_BITS:
                wanted = names_of(bits)
                self.assertEqual(nearest(way, wanted), nearest_way(way, bits), (way, wanted))


class KeepersTest(ErrorsCase):

    def test_without_promises_all_ways(self):
        self.assertEqual(keepers(()), WAYS)

    def test_all_promises_none(self):
        self.assertEqual(keepers(NAMES), ())
        self.assertIs(can_hold(NAMES), False)

    def test_a_way_keeps_its_profile(self):
        for way in WAYS:
            with self.subTest(way=way):
                self.assertIn(way, keepers(profile(way)))

    def test_kinds(self):
        self.assertIs(type(keepers(("made",))), tuple)
        self.assertIs(can_hold(()), True)

    def test_bad_promises(self):
        for value in NO_WANTED:
            self.assert_fails(BadPromises, keepers, value)
            self.assert_fails(BadPromises, can_hold, value)


class CanAddTest(ErrorsCase):

    def test_to_nothing_any(self):
        self.assertEqual(can_add(()), NAMES)

    def test_to_a_clash_nothing(self):
        for clash in LISTED_CLASHES:
            with self.subTest(clash=clash):
                self.assertEqual(can_add(clash), ())

    def test_to_a_greatest_set_nothing(self):
        for names in LISTED_GREATEST:
            with self.subTest(names=names):
                self.assertIs(can_hold(names), True)
                self.assertEqual(can_add(names), ())

    def test_bad_promises(self):
        for value in NO_WANTED:
            self.assert_fails(BadPromises, can_add, value)


class GreatestSetsTest(unittest.TestCase):

    def test_the_ten(self):
        self.assertEqual(greatest_sets(), LISTED_GREATEST)
        self.assertEqual(greatest_sets(), GREATEST_SETS)
        self.assertEqual(len(greatest_sets()), 10)

    def test_ascending(self):
        self.assertIs(type(greatest_sets()), tuple)
        self.assertEqual(list(greatest_sets()), sorted(set(greatest_sets())))


class ClashesTest(ErrorsCase):

    def test_the_twenty_one(self):
        self.assertEqual(least_clashes(), LISTED_CLASHES)
        self.assertEqual(least_clashes(), LEAST_CLASHES)
        self.assertEqual(len(least_clashes()), 21)

    def test_each_part_is_kept(self):
        for clash in least_clashes():
            with self.subTest(clash=clash):
                self.assertIs(can_hold(clash), False)
                for name in clash:
                    self.assertIs(can_hold(tuple(other for other in clash if other != name)), True)

    def test_none_within_what_is_kept(self):
        self.assertEqual(clashes(()), ())
        for way in WAYS:
            with self.subTest(way=way):
                self.assertEqual(clashes(profile(way)), ())

    def test_least_clashes_takes_few_calls(self):
        self.assertLess(count_calls(least_clashes), MOST_CALLS)

    def test_all_within_all(self):
        self.assertEqual(clashes(NAMES), LISTED_CLASHES)

    def test_order(self):
        wanted = ("again", "agreed", "back", "made", "told", "yours")
        self.assertEqual(
            clashes(wanted), (("agreed", "back"), ("back", "made"), ("made", "told"), ("again", "back", "yours"))
        )

    def test_bad_promises(self):
        for value in NO_WANTED:
            self.assert_fails(BadPromises, clashes, value)


class NearestTest(ErrorsCase):

    def test_every_way(self):
        some = ((), ("made",), ("fair",), ("ahead", "back"), ("made", "mine", "yours"), ("steps", "told"), ("back", "made"))
        for wanted in some + LISTED_GREATEST:
            bits = sum(1 << NAMES.index(name) for name in wanted)
            for way in WAYS:
                with self.subTest(way=way, wanted=wanted):
                    self.assertEqual(nearest(way, wanted), nearest_way(way, bits))

    def test_a_way_that_keeps_them_is_nearest_itself(self):
        for way in WAYS:
            with self.subTest(way=way):
                self.assertEqual(nearest(way, profile(way)), way)
                self.assertEqual(nearest(way, ()), way)

    def test_the_least_of_several(self):
        self.assertEqual(nearest(ALL_REFUSE, ("made",)), ALL_BASE)
        self.assertEqual(nearest(PLAIN, ("made",)), ("base", "mine", "yours", "mine", "base"))

    def test_the_fewest_words_before_the_least(self):
        self.assertEqual(nearest(OWN, ("told",)), PLAIN)
        self.assertEqual(nearest(ALL_REFUSE, ("quiet",)), ("base", "refuse", "refuse", "refuse", "refuse"))

    def test_no_way_is_near(self):
        for way in (PLAIN, OWN, ALL_BASE, ALL_REFUSE):
            for wanted in LISTED_CLASHES + (NAMES,):
                with self.subTest(way=way, wanted=wanted):
                    self.assertIs(nearest(way, wanted), None)

    def test_bad_way(self):
        for value in NO_WAYS:
            self.assert_fails(BadWay, nearest, value, ("made",))

    def test_bad_promises(self):
        for value in NO_WANTED:
            self.assert_fails(BadPromises, nearest, PLAIN, value)

    def test_bad_way_comes_first(self):
        for value in NO_WAYS:
            self.assert_fails(BadWay, nearest, value, ("made", "fair"))


if __name__ == "__main__":
    unittest.main()
