"""strandsplaited/errors.py."""

import unittest

from strandsplaited.errors import BadMove, BadText, NoPlait, PlaitError


class ErrorsTest(unittest.TestCase):

    def test_base_class(self):
        self.assertTrue(issubclass(PlaitError, ValueError))

    def test_each_error_is_one_of_the_program(self):
        for kind in (BadMove, BadText, NoPlait):
            self.assertTrue(issubclass(kind, PlaitError))
            with self.assertRaises(PlaitError):
                raise kind("why")

    def test_errors_differ(self):
        for kind in (BadMove, BadText, NoPlait):
            for other in (BadMove, BadText, NoPlait):
                self.assertEqual(issubclass(kind, other), kind is other)


if __name__ == "__main__":
    unittest.main()
