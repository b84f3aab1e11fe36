"""Point 1 and the interface: the classes of the errors, and their fields."""

import unittest

from threeways import errors

PLAIN_NAMES = (
    "BadWay", "BadValue", "BadPromise", "BadPromises", "NotText", "InvalidText", "NotNow", "NothingToUndo",
)
INDEX_NAMES = ("BadDocument", "BadVersions")


class ErrorsTest(unittest.TestCase):

    def test_base_class(self):
        self.assertEqual(errors.MergeError.__bases__, (ValueError,))

    def test_all_are_direct_subclasses(self):
        for name in PLAIN_NAMES + INDEX_NAMES:
            with self.subTest(name=name):
                self.assertEqual(getattr(errors, name).__bases__, (errors.MergeError,))

    def test_there_are_no_others(self):
        self.assertEqual(
            {error.__name__ for error in errors.MergeError.__subclasses__()},
            set(PLAIN_NAMES + INDEX_NAMES),
        )

    def test_defined_in_their_file(self):
        for name in PLAIN_NAMES + INDEX_NAMES + ("MergeError",):
            with self.subTest(name=name):
                self.assertEqual(getattr(errors, name).__module__, "threeways.errors")

    def test_plain_ones_have_no_fields(self):
        for name in PLAIN_NAMES:
            with self.subTest(name=name):
                self.assertEqual(vars(getattr(errors, name)("why")), {})

    def test_index_is_set_at_once(self):
        for name in INDEX_NAMES:
            for index in (None, 0, 3, 11):
                with self.subTest(name=name, index=index):
                    self.assertEqual(vars(getattr(errors, name)(index)), {"index": index})

    def test_caught_by_the_base_classes(self):
        for name in PLAIN_NAMES + INDEX_NAMES:
            for base in (ValueError, errors.MergeError):
                with self.subTest(name=name, base=base):
                    with self.assertRaises(base):
                        raise getattr(errors, name)(None)


if __name__ == "__main__":
    unittest.main()
