"""Points 2, 3 and 4: values, ways and the merge of three values."""

import unittest
from itertools import product

from tests.errors_case import ErrorsCase
from tests.reference import WAYS, plain_merge
from tests.samples import ALL_BASE, ALL_REFUSE, NO_VALUES, NO_WAYS, OWN, PLAIN, SOME_VALUES
from threeways.errors import BadValue, BadWay
from threeways.ways import all_ways, is_way, merge, turned

EVERY_WORD = ("base", "mine", "refuse", "yours")


class AllWaysTest(unittest.TestCase):

    def test_all_216(self):
        self.assertEqual(all_ways(), WAYS)
        self.assertEqual(len(all_ways()), 216)
        self.assertIs(type(all_ways()), tuple)

    def test_ascending_and_unlike(self):
        self.assertEqual(list(all_ways()), sorted(set(all_ways())))

    def test_first_and_last(self):
        self.assertEqual(all_ways()[0], ALL_BASE)
        self.assertEqual(all_ways()[-1], ("refuse", "refuse", "yours", "refuse", "yours"))


class IsWayTest(unittest.TestCase):

    def test_every_five_words(self):
        ways = set(WAYS)
        for words in product(EVERY_WORD, repeat=5):
            with self.subTest(words=words):
                self.assertIs(is_way(words), words in ways)

    def test_other_values(self):
        for value in NO_WAYS:
            with self.subTest(value=value):
                self.assertIs(is_way(value), False)


class TurnedTest(ErrorsCase):

    def test_merges_as_the_way_with_sides_changed(self):
        for way in WAYS:
            other = turned(way)
            self.assertIn(other, WAYS)
            for base, mine, yours in product(range(3), repeat=3):
                with self.subTest(way=way, values=(base, mine, yours)):
                    self.assertEqual(merge(other, base, yours, mine), merge(way, base, mine, yours))

    def test_twice_is_the_way(self):
        for way in WAYS:
            with self.subTest(way=way):
                self.assertEqual(turned(turned(way)), way)

    def test_some(self):
        self.assertEqual(turned(PLAIN), PLAIN)
        self.assertEqual(turned(OWN), ("base", "mine", "yours", "mine", "yours"))
        self.assertEqual(turned(ALL_BASE), ALL_BASE)
        self.assertEqual(
            turned(("base", "mine", "refuse", "mine", "yours")), ("base", "refuse", "yours", "mine", "mine")
        )
        self.assertEqual(
            turned(("refuse", "refuse", "base", "refuse", "base")), ("refuse", "base", "refuse", "refuse", "base")
        )

    def test_bad_way(self):
        for value in NO_WAYS:
            self.assert_fails(BadWay, turned, value)


class MergeTest(ErrorsCase):

    def test_every_way_and_case(self):
        for way in WAYS:
            for values in product(SOME_VALUES, repeat=3):
                with self.subTest(way=way, values=values):
                    self.assertEqual(merge(way, *values), plain_merge(way, *values))

    def test_each_word_of_each_case(self):
        cases = ((7, 7, 7), (7, 8, 7), (7, 7, 9), (7, 8, 8), (7, 8, 9))
        given = {
            "base": (7, 7, 7, 7, 7), "mine": (7, 8, 7, 8, 8), "yours": (7, 7, 9, 8, 9), "refuse": ("refused",) * 5,
        }
        for way in WAYS:
            for k, (values, word) in enumerate(zip(cases, way)):
                with self.subTest(way=way, values=values):
                    self.assertEqual(merge(way, *values), given[word][k])

    def test_none_is_merged_like_any_value(self):
        self.assertIs(merge(PLAIN, 5, None, 5), None)
        self.assertIs(merge(PLAIN, None, None, None), None)
        self.assertEqual(merge(PLAIN, None, 5, None), 5)
        self.assertEqual(merge(PLAIN, None, None, 5), 5)
        self.assertIs(merge(PLAIN, 5, None, None), None)
        self.assertEqual(merge(PLAIN, None, 0, 5), "refused")
        self.assertEqual(merge(PLAIN, 0, None, 5), "refused")

    def test_none_and_zero_are_not_the_same(self):
        self.assertEqual(merge(PLAIN, None, 0, None), 0)
        self.assertIs(merge(PLAIN, 0, None, 0), None)
        self.assertEqual(merge(ALL_REFUSE, 0, 0, 0), "refused")

    def test_least_and_greatest(self):
        self.assertEqual(merge(OWN, 0, 999, 1), 999)
        self.assertEqual(merge(OWN, 999, 0, 999), 0)
        self.assertEqual(merge(OWN, 0, 0, 999), 999)

    def test_renamed_values_give_the_renamed_value(self):
        names = {0: 4, 1: None, 2: 999, "refused": "refused"}
        for way in WAYS:
            for values in product(range(3), repeat=3):
                with self.subTest(way=way, values=values):
                    renamed = [names[value] for value in values]
                    self.assertEqual(merge(way, *renamed), names[merge(way, *values)])

    def test_bad_way(self):
        for value in NO_WAYS:
            self.assert_fails(BadWay, merge, value, 1, 2, 3)

    def test_bad_value_at_each_place(self):
        for value in NO_VALUES:
            self.assert_fails(BadValue, merge, PLAIN, value, 5, 6)
            self.assert_fails(BadValue, merge, PLAIN, 4, value, 6)
            self.assert_fails(BadValue, merge, PLAIN, 4, 5, value)

    def test_bad_value_by_a_way_that_would_not_look(self):
        for value in NO_VALUES:
            self.assert_fails(BadValue, merge, ALL_BASE, 1, 1, value)
            self.assert_fails(BadValue, merge, ALL_REFUSE, value, value, value)

    def test_bad_way_comes_first(self):
        for value in NO_WAYS:
            self.assert_fails(BadWay, merge, value, -1, True, "x")
            self.assert_fails(BadWay, merge, value, 1, 2, 1000)


if __name__ == "__main__":
    unittest.main()
