"""Points 5 and 6: the twelve promises, and what keeps and breaks them."""

import unittest
from itertools import product

from tests.errors_case import ErrorsCase
from tests.reference import BREAKS, LINES, NAMES, WAYS, plain_merge
from tests.samples import ALL_BASE, ALL_REFUSE, NO_PROMISES, NO_WAYS, OWN, PLAIN
from threeways.errors import BadPromise, BadWay
from threeways.promises import count_values, counterexample, keeps, profile, promises


class NamesTest(ErrorsCase):

    def test_all_twelve(self):
        self.assertEqual(promises(), NAMES)
        self.assertIs(type(promises()), tuple)
        self.assertEqual(len(promises()), 12)
        self.assertEqual(list(promises()), sorted(set(promises())))

    def test_count_values(self):
        counts = {"quiet": 1, "agreed": 2, "mine": 2, "yours": 2, "chain": 4, "steps": 4}
        for name in NAMES:
            with self.subTest(name=name):
                self.assertEqual(count_values(name), counts.get(name, 3))
                self.assertIs(type(count_values(name)), int)

    def test_bad_promise(self):
        for value in NO_PROMISES:
            self.assert_fails(BadPromise, count_values, value)


class CounterexampleTest(ErrorsCase):

    def test_every_way_and_promise(self):
        for way in WAYS:
            for name in NAMES:
                with self.subTest(way=way, name=name):
                    self.assertEqual(counterexample(way, name), BREAKS[way, name])
                    self.assertIs(keeps(way, name), BREAKS[way, name] is None)

    def test_kinds_of_values(self):
        for way in WAYS:
            for name in NAMES:
                values = counterexample(way, name)
                if values is not None:
                    with self.subTest(way=way, name=name):
                        self.assertIs(type(values), tuple)
                        self.assertEqual({type(value) for value in values}, {int})
                        self.assertEqual(len(values), count_values(name))

    def test_least_ones_by_hand(self):
        rows = (
            (PLAIN, "again", None), (PLAIN, "back", (0, 1, 1)), (PLAIN, "made", (0, 1, 2)), (PLAIN, "steps", (0, 1, 1, 0)),
            (ALL_BASE, "agreed", (0, 1)), (ALL_BASE, "mine", (0, 1)), (ALL_BASE, "yours", (0, 1)),
            (ALL_BASE, "ahead", (0, 1, 1)), (ALL_BASE, "told", (0, 1, 2)), (ALL_BASE, "back", (0, 0, 1)),
            (ALL_REFUSE, "quiet", (0,)), (ALL_REFUSE, "agreed", (0, 0)), (ALL_REFUSE, "mine", (0, 0)),
            (ALL_REFUSE, "yours", (0, 0)), (ALL_REFUSE, "made", (0, 0, 0)), (ALL_REFUSE, "back", None),
            (OWN, "fair", (0, 1, 2)), (OWN, "told", (0, 1, 2)), (OWN, "made", None),
            (("base", "base", "yours", "mine", "yours"), "fair", (0, 0, 1)),
            (("base", "base", "yours", "mine", "mine"), "chain", (0, 1, 0, 2)),
        )
        for way, name, values in rows:
            with self.subTest(way=way, name=name):
                self.assertEqual(counterexample(way, name), values)

    def test_kept_promises_hold_for_other_values(self):
        names = dict(zip(range(4), (999, None, 0, 17)))
        for way in WAYS:
            table = {row: plain_merge(way, *row) for row in product(names.values(), repeat=3)}

            def joined(o, a, b):
                return "refused" if "refused" in (o, a, b) else table[o, a, b]

            for name in profile(way):
                letters, line = LINES[name]
                with self.subTest(way=way, name=name):
                    self.assertTrue(all(line(joined, *row) for row in product(names.values(), repeat=len(letters))))

    def test_bad_way(self):
        for value in NO_WAYS:
            self.assert_fails(BadWay, counterexample, value, "again")
            self.assert_fails(BadWay, keeps, value, "quiet")

    def test_bad_promise(self):
        for value in NO_PROMISES:
            self.assert_fails(BadPromise, counterexample, PLAIN, value)
            self.assert_fails(BadPromise, keeps, PLAIN, value)

    def test_bad_way_comes_first(self):
        for value in NO_WAYS:
            self.assert_fails(BadWay, counterexample, value, "safe")
            self.assert_fails(BadWay, keeps, value, ["again"])


class ProfileTest(ErrorsCase):

    def test_every_way(self):
        for way in WAYS:
            with self.subTest(way=way):
                self.assertEqual(profile(way), tuple(name for name in NAMES if BREAKS[way, name] is None))

    def test_some_by_hand(self):
        self.assertEqual(profile(PLAIN), ("again", "agreed", "ahead", "chain", "fair", "mine", "quiet", "told", "yours"))
        self.assertEqual(profile(ALL_REFUSE), ("again", "ahead", "back", "chain", "fair", "steps", "told"))
        self.assertEqual(profile(ALL_BASE), ("again", "chain", "fair", "made", "quiet"))

    def test_every_promise_is_kept_and_broken(self):
        for name in NAMES:
            with self.subTest(name=name):
                self.assertEqual({keeps(way, name) for way in WAYS}, {True, False})

    def test_bad_way(self):
        for value in NO_WAYS:
            self.assert_fails(BadWay, profile, value)


if __name__ == "__main__":
    unittest.main()
