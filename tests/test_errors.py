"""Point [2]: the errors."""

import unittest

from hermitcell import errors
from hermitcell.errors import HermitError, NotValid, TooMany


class ErrorsTest(unittest.TestCase):
    def test_each_is_a_direct_subclass(self):
        self.assertEqual(HermitError.__bases__, (ValueError,))
        self.assertEqual(NotValid.__bases__, (HermitError,))
        self.assertEqual(TooMany.__bases__, (HermitError,))

    def test_each_takes_no_argument(self):
        for kind in (HermitError, NotValid, TooMany):
            with self.assertRaises(kind) as caught:
                raise kind()
            self.assertIs(type(caught.exception), kind)

    def test_they_are_defined_in_their_file(self):
        for kind in (HermitError, NotValid, TooMany):
            self.assertEqual(kind.__module__, errors.__name__)
