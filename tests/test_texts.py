"""Point 12: the texts of ways and documents."""

import unittest
from itertools import product

from tests.errors_case import ErrorsCase
from tests.reference import WAYS
from tests.samples import (
    NO_DOCUMENTS, NO_NAMES, NO_NUMBERS, NO_STRINGS, NO_WAYS, PLAIN, SOME_DOCUMENTS, THIRTEEN, TWELVE,
)
from threeways.errors import BadDocument, BadWay, InvalidText, NotText
from threeways.texts import read_document, read_way, write_document, write_way

WORDS_OF_NO_TEXT = ("base", "mine", "refuse", "yours", "")


class WayTextTest(ErrorsCase):

    def test_every_way(self):
        for way in WAYS:
            with self.subTest(way=way):
                text = "{} {} {} {} {}".format(*way)
                self.assertEqual(write_way(way), text)
                self.assertEqual(read_way(text), way)
                self.assertIs(type(read_way(text)), tuple)

    def test_every_five_words(self):
        for words in product(WORDS_OF_NO_TEXT, repeat=5):
            if words not in WAYS:
                self.assert_fails(InvalidText, read_way, " ".join(words))

    def test_no_texts_of_ways(self):
        texts = (
            "", " ", "base", "base mine yours mine", "base mine yours mine refuse refuse", "base mine yours mine refuse ",
            " base mine yours mine refuse", "base  mine yours mine refuse", "base mine yours mine  refuse",
            "base\tmine yours mine refuse", "base mine yours mine refuse\n", "base\nmine\nyours\nmine\nrefuse",
            "base\u00a0mine yours mine refuse", "Base mine yours mine refuse", "base,mine,yours,mine,refuse",
            "basemineyoursminerefuse", "base mine yours mine refused", "base mine yours mine ref", "a=1", "none",
            str(PLAIN), "base " * 5, "base " * 1000,
        )
        for text in texts:
            self.assert_fails(InvalidText, read_way, text)

    def test_not_text(self):
        for value in NO_STRINGS:
            self.assert_fails(NotText, read_way, value)

    def test_bad_way(self):
        for value in NO_WAYS:
            self.assert_fails(BadWay, write_way, value)


class DocumentTextTest(ErrorsCase):

    def test_some_by_hand(self):
        rows = (
            ((), ""), ((("a", 0),), "a=0"), ((("a", 999),), "a=999"), ((("none", 10), ("refused", 100)), "none=10 refused=100"),
            ((("abcdefghijkl", 7),), "abcdefghijkl=7"), ((("a", 1), ("aa", 20), ("b", 0)), "a=1 aa=20 b=0"),
            (TWELVE, "a=988 b=989 c=990 d=991 e=992 f=993 g=994 h=995 i=996 j=997 k=998 l=999"),
        )
        for document, text in rows:
            with self.subTest(text=text):
                self.assertEqual(write_document(document), text)
                self.assertEqual(read_document(text), document)

    def test_every_integer(self):
        for integer in range(1000):
            with self.subTest(integer=integer):
                text = "a=" + str(integer) + " b=" + str(999 - integer)
                document = (("a", integer), ("b", 999 - integer))
                self.assertEqual(write_document(document), text)
                self.assertEqual(read_document(text), document)

    def test_kinds_of_values(self):
        document = read_document("a=1 b=2")
        self.assertEqual([type(document), type(document[0]), type(document[1])], [tuple] * 3)
        self.assertEqual([type(part) for part in document[0]], [str, int])
        self.assertIs(type(read_document("")), tuple)

    def test_written_and_read(self):
        for document in SOME_DOCUMENTS:
            with self.subTest(document=document):
                self.assertEqual(read_document(write_document(document)), document)

    def test_no_numbers(self):
        for number in NO_NUMBERS + ("none",):
            self.assert_fails(InvalidText, read_document, "a=" + number)
            self.assert_fails(InvalidText, read_document, "a=1 b=" + number + " c=1")

    def test_no_names(self):
        for name in NO_NAMES:
            if isinstance(name, str):
                self.assert_fails(InvalidText, read_document, name + "=1")
                self.assert_fails(InvalidText, read_document, "a=1 " + name + "=1")

    def test_names_not_ascending(self):
        for text in ("b=1 a=1", "a=1 a=1", "a=1 a=2", "aa=1 a=1", "a=1 c=1 b=1", "a=1 b=1 b=1", "b=1 ab=1"):
            self.assert_fails(InvalidText, read_document, text)

    def test_spaces_and_signs(self):
        texts = (
            " ", "  ", " a=1", "a=1 ", "a=1  b=1", "a=1\tb=1", "a=1\nb=1", "a=1\u00a0b=1", "a =1", "a= 1", "a = 1", "a=1\n",
            "a", "=", "=1", "a=", "a==1", "a=1=1", "a=1=", "=a=1", "a1", "a:1", "a=1,b=1", "a=1b=1", "a=1;", "a 1", "none",
            "('a', 1)", "()", "a=1 none", "\n", "\t",
        )
        for text in texts:
            self.assert_fails(InvalidText, read_document, text)

    def test_thirteen_pairs(self):
        text = " ".join(name + "=" + str(integer) for name, integer in THIRTEEN)
        self.assert_fails(InvalidText, read_document, text)
        self.assertEqual(read_document(text[:text.index(" m=")]), THIRTEEN[:12])
        self.assert_fails(InvalidText, read_document, "a=1 " * 1000 + "a=1")

    def test_not_text(self):
        for value in NO_STRINGS:
            self.assert_fails(NotText, read_document, value)

    def test_bad_documents(self):
        for value, index in NO_DOCUMENTS:
            self.assert_fails_at(BadDocument, index, write_document, value)


if __name__ == "__main__":
    unittest.main()
