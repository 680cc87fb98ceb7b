"""Point 0.6 and the interface of wholeconic/errors.py."""

import unittest

from wholeconic import errors
from wholeconic.errors import BadForm, BadText, ConicError


class TestErrors(unittest.TestCase):

    def test_classes_and_bases(self):
        self.assertEqual(ConicError.__bases__, (ValueError,))
        self.assertEqual(BadText.__bases__, (ConicError,))
        self.assertEqual(BadForm.__bases__, (ConicError,))

    def test_classes_are_defined_in_their_file(self):
        for one in (ConicError, BadText, BadForm):
            self.assertEqual(one.__module__, errors.__name__)

    def test_init_is_defined_in_the_base_itself(self):
        self.assertIn("__init__", vars(ConicError))

    def test_what_by_position(self):
        for one in (ConicError, BadText, BadForm):
            for what in (0, 7, -3, "x", (1, 2), None):
                self.assertEqual(one(what).what, what)

    def test_what_by_keyword(self):
        for one in (ConicError, BadText, BadForm):
            self.assertEqual(one(what=5).what, 5)

    def test_what_is_none_if_not_given(self):
        for one in (ConicError, BadText, BadForm):
            self.assertIn("what", vars(one()))
            self.assertIsNone(one().what)

    def test_raised_and_caught_by_each_base(self):
        for one in (ConicError, BadText, BadForm):
            for base in (one, ConicError, ValueError):
                with self.assertRaises(base) as caught:
                    raise one(4)
                self.assertEqual(caught.exception.what, 4)

    def test_the_two_errors_are_apart(self):
        self.assertFalse(issubclass(BadText, BadForm))
        self.assertFalse(issubclass(BadForm, BadText))

    def test_shown_without_an_error(self):
        self.assertEqual(str(BadForm(12)), "12")
        self.assertIsInstance(str(ConicError()), str)


if __name__ == "__main__":
    unittest.main()
