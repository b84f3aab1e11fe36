"""What all tests of wrong arguments have in common."""

import copy
import unittest


class ErrorsCase(unittest.TestCase):
    """A test case that can tell the very class of an error, and that nothing was changed."""

    def assert_fails(self, error, function, *arguments):
        """Check that a call raises just this error, and leaves its arguments as they were."""
        before = copy.deepcopy(arguments)
        with self.subTest(function=function.__name__, arguments=arguments):
            with self.assertRaises(error) as caught:
                function(*arguments)
            self.assertIs(type(caught.exception), error)
            self.assertEqual(repr(arguments), repr(before))

    def assert_fails_at(self, error, index, function, *arguments):
        """Check that a call raises just this error with this index, and leaves its arguments as they were."""
        self.assert_fails(error, function, *arguments)
        with self.subTest(function=function.__name__, arguments=arguments):
            with self.assertRaises(error) as caught:
                function(*arguments)
            self.assertEqual((type(caught.exception.index), caught.exception.index), (type(index), index))
