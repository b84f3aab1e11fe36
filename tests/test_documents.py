"""Point 11: documents, their merge and their changed names."""

import unittest
from itertools import product

from tests.errors_case import ErrorsCase
from tests.reference import WAYS, plain_merge
from tests.samples import (
    ALL_BASE, ALL_REFUSE, NO_DOCUMENTS, NO_WAYS, OWN, PLAIN, SOME_DOCUMENTS, THIRTEEN, TWELVE,
)
from threeways.documents import changed_names, merge_documents
from threeways.errors import BadDocument, BadWay

# All documents of the names a and b with the integers 0 and 1.
SMALL = tuple(
    tuple((name, integer) for name, integer in zip("ab", integers) if integer is not None)
    for integers in product((None, 0, 1), repeat=2)
)

# A name for each way in which three values can be the same or not, None and 0 among them.
CASES = {
    "".join("nopq"[k] for k in row): tuple((None, 0, 5, 999)[k] for k in row) for row in product(range(4), repeat=3)
}


def case_documents():
    """Yield triples of documents that together have each of the names of CASES once."""
    names = sorted(CASES)
    for start in range(0, len(names), 12):
        yield tuple(
            tuple((name, CASES[name][side]) for name in names[start:start + 12] if CASES[name][side] is not None)
            for side in range(3)
        )


def told_merge(way, base, mine, yours):
    """Merge documents, told once more: by looking at all names there could be."""
    tables = [dict(base), dict(mine), dict(yours)]
    came_out, refused = {}, []
    for name in set().union(*tables):
        result = plain_merge(way, *(table.get(name) for table in tables))
        if result == "refused":
            refused.append(name)
        elif result is not None:
            came_out[name] = result
    return tuple(sorted(came_out.items())), tuple(sorted(refused))


class MergeDocumentsTest(ErrorsCase):

    def test_every_way_and_case(self):
        for way in WAYS:
            for base, mine, yours in case_documents():
                with self.subTest(way=way, base=base, mine=mine, yours=yours):
                    self.assertEqual(merge_documents(way, base, mine, yours), told_merge(way, base, mine, yours))

    def test_small_documents(self):
        for way in (PLAIN, OWN, ALL_BASE, ALL_REFUSE, ("base", "mine", "yours", "base", "yours")):
            for base, mine, yours in product(SMALL, repeat=3):
                with self.subTest(way=way, base=base, mine=mine, yours=yours):
                    self.assertEqual(merge_documents(way, base, mine, yours), told_merge(way, base, mine, yours))

    def test_empty_documents(self):
        for way in WAYS:
            with self.subTest(way=way):
                self.assertEqual(merge_documents(way, (), (), ()), ((), ()))

    def test_kinds_of_values(self):
        pair = merge_documents(PLAIN, (("a", 1),), (("a", 2), ("b", 1)), (("a", 3),))
        self.assertEqual(pair, ((("b", 1),), ("a",)))
        self.assertEqual([type(part) for part in pair + pair[0]], [tuple] * 3)
        self.assertIs(type(pair), tuple)

    def test_some_by_hand(self):
        base, mine, yours = (("a", 1), ("b", 2)), (("b", 3), ("c", 4)), (("a", 1), ("b", 2), ("c", 5), ("d", 6))
        self.assertEqual(merge_documents(PLAIN, base, mine, yours), ((("b", 3), ("d", 6)), ("c",)))
        self.assertEqual(merge_documents(OWN, base, mine, yours), ((("b", 3), ("c", 4), ("d", 6)), ()))
        self.assertEqual(merge_documents(ALL_BASE, base, mine, yours), (base, ()))
        self.assertEqual(merge_documents(ALL_REFUSE, base, mine, yours), ((), ("a", "b", "c", "d")))

    def test_a_name_that_both_took_out(self):
        self.assertEqual(merge_documents(PLAIN, (("a", 1),), (), ()), ((), ()))
        self.assertEqual(merge_documents(ALL_REFUSE, (("a", 1),), (), ()), ((), ("a",)))

    def test_names_ascend_by_their_letters(self):
        base, mine, yours = (("b", 1),), (("aa", 1), ("b", 1), ("z", 1)), (("a", 1), ("ab", 1), ("b", 1))
        merged = (("a", 1), ("aa", 1), ("ab", 1), ("b", 1), ("z", 1))
        self.assertEqual(merge_documents(PLAIN, base, mine, yours), (merged, ()))
        self.assertEqual(merge_documents(ALL_REFUSE, base, mine, yours), ((), ("a", "aa", "ab", "b", "z")))

    def test_the_merged_one_can_have_more_than_twelve_pairs(self):
        sides = [tuple((letter + other, k) for k, letter in enumerate("abcdefghijkl")) for other in "xyz"]
        merged, names = merge_documents(OWN, (), sides[1], sides[2])
        self.assertEqual((merged, names), (tuple(sorted(sides[1] + sides[2])), ()))
        self.assertEqual(merge_documents(ALL_REFUSE, *sides), ((), tuple(sorted(name for name, _ in sum(sides, ())))))
        way = ("base", "mine", "yours", "base", "refuse")
        self.assertEqual(merge_documents(way, *sides), (tuple(sorted(sum(sides, ()))), ()))

    def test_twelve_pairs(self):
        self.assertEqual(merge_documents(PLAIN, TWELVE, TWELVE, TWELVE), (TWELVE, ()))
        self.assertEqual(merge_documents(PLAIN, (), TWELVE, ()), (TWELVE, ()))

    def test_some_documents_by_themselves(self):
        for document in SOME_DOCUMENTS:
            with self.subTest(document=document):
                self.assertEqual(merge_documents(PLAIN, document, document, document), (document, ()))
                self.assertEqual(merge_documents(PLAIN, document, (), document), ((), ()))

    def test_bad_documents(self):
        for value, index in NO_DOCUMENTS:
            self.assert_fails_at(BadDocument, index, merge_documents, PLAIN, value, (), ())
            self.assert_fails_at(BadDocument, index, merge_documents, PLAIN, (), value, ())
            self.assert_fails_at(BadDocument, index, merge_documents, PLAIN, (), (), value)

    def test_the_first_bad_document_comes_first(self):
        bad = ((("a", 1), ("b", -1)), ((1, 1),), [])
        self.assert_fails_at(BadDocument, 1, merge_documents, PLAIN, bad[0], bad[1], bad[2])
        self.assert_fails_at(BadDocument, 0, merge_documents, PLAIN, (), bad[1], bad[2])
        self.assert_fails_at(BadDocument, None, merge_documents, PLAIN, bad[2], bad[1], bad[0])
        self.assert_fails_at(BadDocument, 1, merge_documents, PLAIN, TWELVE, bad[0], THIRTEEN)

    def test_bad_way_comes_first(self):
        for way in NO_WAYS:
            self.assert_fails(BadWay, merge_documents, way, (), (), ())
            self.assert_fails(BadWay, merge_documents, way, ((),), THIRTEEN, None)


class ChangedNamesTest(ErrorsCase):

    def test_small_documents(self):
        for one, other in product(SMALL, repeat=2):
            with self.subTest(one=one, other=other):
                names = changed_names(one, other)
                self.assertIs(type(names), tuple)
                self.assertEqual(names, tuple(sorted({name for name, _ in set(one) ^ set(other)})))

    def test_some_by_hand(self):
        self.assertEqual(changed_names((), ()), ())
        self.assertEqual(changed_names((), TWELVE), tuple("abcdefghijkl"))
        self.assertEqual(changed_names(TWELVE, TWELVE[1:]), ("a",))
        self.assertEqual(changed_names((("b", 0),), ()), ("b",))
        self.assertEqual(changed_names((("b", 1), ("c", 2)), (("a", 1), ("b", 2), ("c", 2))), ("a", "b"))

    def test_both_ways_round(self):
        for one, other in product(SOME_DOCUMENTS, repeat=2):
            with self.subTest(one=one, other=other):
                self.assertEqual(changed_names(one, other), changed_names(other, one))
                self.assertEqual(changed_names(one, one), ())

    def test_more_than_twelve_names(self):
        other = tuple((letter + "z", 5) for letter in "abcdefghijkl")
        self.assertEqual(changed_names(TWELVE, other), tuple(sorted(name for name, _ in TWELVE + other)))

    def test_bad_documents(self):
        for value, index in NO_DOCUMENTS:
            self.assert_fails_at(BadDocument, index, changed_names, value, ())
            self.assert_fails_at(BadDocument, index, changed_names, TWELVE, value)

    def test_the_first_bad_document_comes_first(self):
        self.assert_fails_at(BadDocument, 0, changed_names, (None,), THIRTEEN)
        self.assert_fails_at(BadDocument, None, changed_names, THIRTEEN, (None,))


if __name__ == "__main__":
    unittest.main()
