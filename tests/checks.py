"""What the tests of wrong arguments share."""

import unittest


class ErrorChecks(unittest.TestCase):
    def check_raises(self, expected, function, *arguments):
        """Check that a call raises just this error, and return the error."""
        with self.subTest(getattr(function, "__name__", ""), arguments=str(arguments)[:60]):
            with self.assertRaises(expected) as caught:
                function(*arguments)
            self.assertIs(type(caught.exception), expected)
            return caught.exception
