"""The errors of the interface."""

import unittest

from shedbook import errors

NAMES = ("Malformed", "InvalidLine", "InvalidSchema", "InvalidRule", "UnknownKind", "Clash",
         "NotFound", "Duplicate", "Refused", "Past", "Forbidden")


class ErrorsTest(unittest.TestCase):
    def test_base(self):
        self.assertEqual(errors.ShedError.__bases__, (ValueError,))
        self.assertEqual(errors.ShedError.__module__, "shedbook.errors")
        self.assertEqual(vars(errors.ShedError()), {})

    def test_each_error(self):
        for name in NAMES:
            with self.subTest(name):
                error = getattr(errors, name)
                self.assertEqual(error.__name__, name)
                self.assertEqual(error.__module__, "shedbook.errors")
                self.assertEqual(error.__bases__, (errors.ShedError,))
                self.assertEqual(vars(error()), {})

    def test_errors_are_caught_by_name(self):
        for name in NAMES:
            with self.subTest(name):
                with self.assertRaises(errors.ShedError):
                    raise getattr(errors, name)()


if __name__ == "__main__":
    unittest.main()
