"""What the tests of several files check in the same way."""

import unittest


class Case(unittest.TestCase):
    def assert_raises(self, error_class, argument, value, function, *call):
        """Check that the call raises this very error, and that it keeps this very value."""
        with self.assertRaises(error_class) as caught:
            function(*call)
        self.assertIs(type(caught.exception), error_class)
        self.assertIs(getattr(caught.exception, argument), value)

    def assert_too_many(self, limit, function, *call):
        # A name of its own, since a limit is an equal number, not the same object.
        with self.assertRaises(ValueError) as caught:
            function(*call)
        self.assertEqual(type(caught.exception).__name__, "TooMany")
        self.assertEqual(caught.exception.limit, limit)
        self.assertIs(type(caught.exception.limit), int)

    def assert_plain(self, value):
        """Check that the value is built of tuples and integers alone."""
        if type(value) is tuple:
            for part in value:
                self.assert_plain(part)
        else:
            self.assertIs(type(value), int)
