"""Point 1: the errors and their fields."""

import unittest

from cacheheld import errors
from cacheheld.designs import write_steps
from cacheheld.errors import BadDesign, BadRun, CacheError, InvalidText
from cacheheld.runs import state
from support import CALM

WITHOUT_FIELDS = ("BadDesign", "BadWorld", "BadPromise", "BadPromises", "BadNumber", "NotBroken", "NotNow",
                  "NotText", "NothingToUndo")


class ErrorsTest(unittest.TestCase):
    def test_the_base_is_a_value_error(self):
        self.assertEqual(CacheError.__bases__, (ValueError,))

    def test_all_others_are_direct_subclasses_of_the_base(self):
        for name in WITHOUT_FIELDS + ("BadRun", "InvalidText"):
            with self.subTest(name):
                self.assertEqual(getattr(errors, name).__bases__, (CacheError,))

    def test_there_are_no_other_errors(self):
        found = [name for name, value in vars(errors).items() if isinstance(value, type)]
        self.assertEqual(sorted(found), sorted(WITHOUT_FIELDS + ("BadRun", "CacheError", "InvalidText")))

    def test_errors_without_fields(self):
        for name in WITHOUT_FIELDS:
            with self.subTest(name):
                self.assertEqual(vars(getattr(errors, name)()), {})

    def test_fields(self):
        self.assertEqual(vars(BadRun(7)), {"index": 7})
        self.assertEqual(vars(BadRun(None)), {"index": None})
        self.assertEqual(vars(InvalidText(1)), {"line": 1})

    def test_raised_errors_are_value_errors(self):
        with self.assertRaises(ValueError):
            write_steps("store")
        with self.assertRaises(ValueError):
            state(("store", "always", "alone"), CALM, [])

    def test_fields_of_what_is_raised(self):
        with self.assertRaises(BadDesign) as caught:
            write_steps("store")
        self.assertEqual(vars(caught.exception), {})
        with self.assertRaises(BadRun) as caught:
            state(("store", "always", "alone"), CALM, [])
        self.assertEqual(vars(caught.exception), {"index": None})


if __name__ == "__main__":
    unittest.main()
