"""Point 13: the desk, its lines and what it takes back."""

import copy
import unittest
from itertools import product

from tests.errors_case import ErrorsCase
from tests.reference import WAYS, plain_merge
from tests.samples import ALL_BASE, ALL_REFUSE, NO_NAMES, NO_NUMBERS, NO_STRINGS, NO_WAYS, OWN, PLAIN
from threeways.desks import Desk
from threeways.documents import merge_documents
from threeways.errors import BadWay, InvalidText, NothingToUndo, NotNow, NotText
from threeways.texts import write_document

SIDES = ("base", "mine", "yours")

TWELVE_NAMES = "abcdefghijkl"

FAULTY_LINES = (
    "", " ", "  ", "none", "undo", "hers", "Base", "bas", "bases", "documents", "merged", "base ", " base", "merge ", " merge",
    "refused ", " refused", "base\n", "\nbase", "merge\n", "refused\t", "base merge", "base mine", "base a", "base a ",
    "base  1", "base a=1", "base a 1 ", " base a 1", "base  a 1", "base a  1", "base a 1 1", "base a 1 b 2", "base\ta\t1",
    "base\ta 1", "base a\t1", "base a 1\n", "base\u00a0a\u00a01", "hers a 1", "Base a 1", "BASE a 1", " a 1", "merge a 1",
    "refused a 1", "none a 1", "undo a 1", "base 1 a", "1 a base", "a base 1", "a 1 base", "base a None", "base a -1",
    "base a nones", "base a no", "base A none", "base 1 none", "base  none", "hers a none", "baseminea 1",
)


def desk_after(way, *lines):
    desk = Desk(way)
    for line in lines:
        desk.run(line)
    return desk


def full_desk():
    """Return a desk by PLAIN with twelve names in each document."""
    return desk_after(PLAIN, *(side + " " + name + " 5" for name in TWELVE_NAMES for side in SIDES))


class ToldDesk:
    """A desk told once more, over dicts, with all that it was kept by for each line."""

    def __init__(self, way):
        self.way, self.tables, self.before = way, {side: {} for side in SIDES}, []

    def merged(self):
        names = sorted(set().union(*self.tables.values()))
        return {name: plain_merge(self.way, *(self.tables[side].get(name) for side in SIDES)) for name in names}

    def run(self, line):
        if line in SIDES:
            return self.text(self.tables[line])
        if line == "merge":
            return self.text({name: value for name, value in self.merged().items() if value not in (None, "refused")})
        if line == "refused":
            return " ".join(name for name, value in self.merged().items() if value == "refused") or "none"
        self.before.append(copy.deepcopy(self.tables))
        side, name, word = line.split()
        self.tables[side].pop(name, None)
        if word != "none":
            self.tables[side][name] = int(word)
        return None

    def undo(self):
        self.tables = self.before.pop()

    @staticmethod
    def text(table):
        return " ".join(name + "=" + str(table[name]) for name in sorted(table))


class DeskCase(ErrorsCase):

    def assert_same(self, desk, told):
        for line in SIDES + ("merge", "refused"):
            self.assertEqual(desk.run(line), told.run(line), line)
        documents = tuple(tuple(sorted(told.tables[side].items())) for side in SIDES)
        self.assertEqual(desk.documents, documents)
        self.assertEqual(desk.merge, merge_documents(told.way, *documents))

    def assert_unchanged_by(self, desk, error, call, *arguments):
        """Check that a call fails, and that neither the desk nor what undo() takes back is changed."""
        before = (desk.documents, desk.merge)
        self.assert_fails(error, call, *arguments)
        self.assertEqual((desk.documents, desk.merge), before)


class LinesTest(DeskCase):

    def test_at_first(self):
        for way in WAYS:
            desk = Desk(way)
            with self.subTest(way=way):
                self.assertEqual(desk.documents, ((), (), ()))
                self.assertEqual(desk.merge, ((), ()))
                self.assertEqual([desk.run(line) for line in SIDES + ("merge", "refused")], ["", "", "", "", "none"])

    def test_all_short_runs_are_as_told(self):
        lines = [" ".join(words) for words in product(SIDES, ("a", "none"), ("0", "7", "none"))]
        for way, first, second in product((PLAIN, ALL_REFUSE), lines, lines):
            desk, told = Desk(way), ToldDesk(way)
            for line in (first, second, "base b 999", "yours a 7", first):
                with self.subTest(way=way, line=line):
                    self.assertIs(desk.run(line), told.run(line))
                    self.assert_same(desk, told)
            while told.before:
                with self.subTest(way=way, left=len(told.before)):
                    self.assertIs(desk.undo(), told.undo())
                    self.assert_same(desk, told)
            self.assert_unchanged_by(desk, NothingToUndo, desk.undo)

    def test_each_side_stands_for_itself(self):
        for k, side in enumerate(SIDES):
            desk = desk_after(PLAIN, side + " b 2", side + " a 1")
            with self.subTest(side=side):
                self.assertEqual(desk.documents[k], (("a", 1), ("b", 2)))
                self.assertEqual(sorted(desk.documents), [(), (), (("a", 1), ("b", 2))])
                self.assertEqual([desk.run(line) for line in SIDES].index("a=1 b=2"), k)

    def test_every_integer(self):
        desk = Desk(PLAIN)
        for integer in range(1000):
            self.assertIs(desk.run("mine abcdefghijkl " + str(integer)), None)
            self.assertEqual(desk.documents[1], (("abcdefghijkl", integer),))
            self.assertEqual(desk.run("merge"), "abcdefghijkl=" + str(integer))

    def test_kinds_of_values(self):
        desk = desk_after(PLAIN, "base a 1", "mine a 2", "yours a 3", "yours b 1")
        self.assertEqual([type(part) for part in desk.documents], [tuple] * 3)
        self.assertEqual([type(part) for part in desk.documents[0][0]], [str, int])
        self.assertEqual([type(part) for part in desk.merge], [tuple] * 2)
        self.assertEqual([type(part) for part in (desk.documents, desk.merge, desk.merge[0][0])], [tuple] * 3)

    def test_a_name_is_taken_out(self):
        desk = desk_after(PLAIN, "mine a 1", "mine b 2")
        self.assertIs(desk.run("mine a none"), None)
        self.assertEqual(desk.documents, ((), (("b", 2),), ()))
        self.assertIs(desk.run("mine a none"), None)
        self.assertIs(desk.run("yours b none"), None)
        self.assertEqual(desk.documents, ((), (("b", 2),), ()))

    def test_the_word_none_as_a_name(self):
        desk = Desk(PLAIN)
        self.assertIs(desk.run("mine none 5"), None)
        self.assertEqual((desk.run("mine"), desk.run("refused")), ("none=5", "none"))
        self.assertIs(desk.run("yours none 6"), None)
        self.assertEqual((desk.run("merge"), desk.run("refused"), desk.merge), ("", "none", ((), ("none",))))
        self.assertIs(desk.run("yours none none"), None)
        self.assertEqual((desk.run("merge"), desk.run("refused"), desk.merge), ("none=5", "none", ((("none", 5),), ())))

    def test_other_words_as_names(self):
        desk = Desk(PLAIN)
        for name in ("base", "mine", "yours", "merge", "refused", "undo", "a", "z", "abcdefghijkl"):
            self.assertIs(desk.run("base " + name + " 7"), None)
        self.assertEqual(
            desk.run("base"), "a=7 abcdefghijkl=7 base=7 merge=7 mine=7 refused=7 undo=7 yours=7 z=7"
        )

    def test_refused_names(self):
        desk = desk_after(PLAIN, "mine b 1", "mine a 1", "yours b 2", "yours a 2", "base c 1", "mine c 2", "yours c 3")
        self.assertEqual(desk.run("refused"), "a b c")
        self.assertEqual(desk.merge, ((), ("a", "b", "c")))

    def test_the_merged_text_can_have_more_than_twelve_pairs(self):
        desk = Desk(("base", "mine", "yours", "base", "refuse"))
        for name, (k, side) in product(TWELVE_NAMES, enumerate(SIDES)):
            desk.run(side + " " + name + "xyz"[k] + " 5")
        pairs = tuple((name + letter, 5) for name in TWELVE_NAMES for letter in "xyz")
        self.assertEqual(desk.merge, (pairs, ()))
        self.assertEqual(desk.run("merge"), " ".join(name + "=5" for name, _ in pairs))

    def test_texts_are_those_of_the_documents(self):
        desk = full_desk()
        for k, side in enumerate(SIDES):
            self.assertEqual(desk.run(side), write_document(desk.documents[k]))

    def test_two_desks_have_nothing_in_common(self):
        one, other = desk_after(PLAIN, "mine a 1", "yours a 2"), Desk(OWN)
        self.assertEqual((other.documents, other.run("merge")), (((), (), ()), ""))
        self.assert_unchanged_by(other, NothingToUndo, other.undo)
        self.assertEqual(one.merge, ((), ("a",)))


class PropertiesTest(DeskCase):

    def test_what_was_read_stays(self):
        desk = desk_after(PLAIN, "base a 1")
        documents, merged = desk.documents, desk.merge
        desk.run("base a 2")
        desk.run("mine b 3")
        self.assertEqual((documents, merged), (((("a", 1),), (), ()), ((), ())))

    def test_they_are_read_only(self):
        desk = desk_after(PLAIN, "base a 1")
        for name in ("documents", "merge"):
            with self.assertRaises(AttributeError):
                setattr(desk, name, ())

    def test_reading_leaves_what_undo_takes_back(self):
        desk = desk_after(PLAIN, "base a 1", "base b 1")
        self.assertEqual((desk.merge, desk.documents, desk.merge), (((), ()), ((("a", 1), ("b", 1)), (), ()), ((), ())))
        desk.undo()
        self.assertEqual(desk.run("base"), "a=1")


class ThirteenthNameTest(DeskCase):

    def test_not_now(self):
        desk = full_desk()
        for side in SIDES:
            for line in (side + " m 1", side + " aa 0", side + " none 999"):
                self.assert_unchanged_by(desk, NotNow, desk.run, line)

    def test_what_stands_there_can_still_change(self):
        desk = full_desk()
        for side in SIDES:
            self.assertIs(desk.run(side + " l 999"), None)
            self.assertIs(desk.run(side + " m none"), None)
            self.assertIs(desk.run(side + " a none"), None)
            self.assertIs(desk.run(side + " m 1"), None)
            self.assert_unchanged_by(desk, NotNow, desk.run, side + " a 1")
            self.assertTrue(desk.run(side).endswith(" k=5 l=999 m=1"))

    def test_only_one_document_is_full(self):
        desk = desk_after(PLAIN, *("mine " + name + " 1" for name in TWELVE_NAMES))
        self.assertIs(desk.run("yours m 1"), None)
        self.assertIs(desk.run("base m 1"), None)
        self.assert_unchanged_by(desk, NotNow, desk.run, "mine m 1")

    def test_an_invalid_line_is_one_there_too(self):
        desk = full_desk()
        for line in ("base m 1000", "base m 01", "hers m 1", "base M 1", "base abcdefghijklm 1"):
            self.assert_unchanged_by(desk, InvalidText, desk.run, line)

    def test_undo_behind_it(self):
        desk = full_desk()
        self.assert_unchanged_by(desk, NotNow, desk.run, "yours m 1")
        desk.undo()
        self.assertEqual([len(document) for document in desk.documents], [12, 12, 11])


class UndoTest(DeskCase):

    def test_it_returns_none(self):
        desk = desk_after(PLAIN, "base a 1")
        self.assertIs(desk.undo(), None)
        self.assertEqual(desk.documents, ((), (), ()))

    def test_nothing_left(self):
        desk = Desk(PLAIN)
        self.assert_unchanged_by(desk, NothingToUndo, desk.undo)
        desk.run("base a 1")
        desk.undo()
        self.assert_unchanged_by(desk, NothingToUndo, desk.undo)
        desk.run("base b 1")
        self.assertEqual(desk.run("base"), "b=1")

    def test_behind_a_line_that_returned_a_text(self):
        for line in SIDES + ("merge", "refused"):
            desk = desk_after(PLAIN, "mine a 1", "mine a 2", line)
            desk.undo()
            self.assertEqual(desk.run("mine"), "a=1")
            desk.run(line)
            desk.undo()
            self.assertEqual(desk.run("mine"), "")
            desk.run(line)
            self.assert_unchanged_by(desk, NothingToUndo, desk.undo)

    def test_behind_a_line_that_raised_an_error(self):
        for line, error in (("mine a 1000", InvalidText), ("hers", InvalidText), (None, NotText), (True, NotText)):
            desk = desk_after(PLAIN, "mine a 1", "mine a 2")
            self.assert_unchanged_by(desk, error, desk.run, line)
            desk.undo()
            self.assertEqual(desk.run("mine"), "a=1")
            self.assert_unchanged_by(desk, error, desk.run, line)
            desk.undo()
            self.assert_unchanged_by(desk, NothingToUndo, desk.undo)

    def test_lines_that_changed_nothing_are_taken_back_too(self):
        desk = desk_after(PLAIN, "base a 1", "base a 1", "base b none", "mine a none")
        for left in (3, 2, 1):
            desk.undo()
            self.assertEqual(desk.run("base"), "a=1", left)
        desk.undo()
        self.assertEqual(desk.run("base"), "")
        self.assert_unchanged_by(desk, NothingToUndo, desk.undo)

    def test_a_name_comes_back(self):
        desk = desk_after(PLAIN, "base a 1", "mine a 2", "base a none")
        desk.undo()
        self.assertEqual(desk.documents, ((("a", 1),), (("a", 2),), ()))

    def test_many_lines(self):
        desk = Desk(PLAIN)
        for k in range(500):
            desk.run("yours a " + str(k))
        for k in range(498, -1, -1):
            desk.undo()
            self.assertEqual(desk.documents[2], (("a", k),))
        desk.undo()
        self.assert_unchanged_by(desk, NothingToUndo, desk.undo)


class WrongArgumentsTest(DeskCase):

    def test_bad_way(self):
        for way in NO_WAYS:
            self.assert_fails(BadWay, Desk, way)

    def test_every_way_has_a_desk(self):
        for way in WAYS:
            desk = desk_after(way, "base a 1", "mine a 2", "yours a 3")
            came_out = plain_merge(way, 1, 2, 3)
            with self.subTest(way=way):
                self.assertEqual(desk.merge, ((), ("a",)) if came_out == "refused" else ((("a", came_out),), ()))

    def test_not_text(self):
        desk = desk_after(ALL_BASE, "base a 1")
        for value in NO_STRINGS:
            self.assert_unchanged_by(desk, NotText, desk.run, value)

    def test_faulty_lines(self):
        desk = desk_after(PLAIN, "base a 1", "mine a 2", "yours a 3")
        for line in FAULTY_LINES:
            self.assert_unchanged_by(desk, InvalidText, desk.run, line)

    def test_no_names_and_no_numbers(self):
        desk = desk_after(PLAIN, "base a 1", "mine a 2", "yours a 3")
        for side in SIDES:
            for name in NO_NAMES:
                if isinstance(name, str):
                    self.assert_unchanged_by(desk, InvalidText, desk.run, side + " " + name + " 1")
                    self.assert_unchanged_by(desk, InvalidText, desk.run, side + " " + name + " none")
            for number in NO_NUMBERS:
                self.assert_unchanged_by(desk, InvalidText, desk.run, side + " a " + number)


if __name__ == "__main__":
    unittest.main()
