"""The errors: section 3 and the interface."""

import unittest

from roundwaves import errors

NAMES = ["InvalidChain", "InvalidNumber", "InvalidStep", "InvalidText", "TooMany", "NothingToUndo"]


class ErrorsTest(unittest.TestCase):
    def test_round_error_is_a_value_error(self):
        self.assertEqual(errors.RoundError.__bases__, (ValueError,))

    def test_each_is_a_direct_subclass_of_round_error(self):
        for name in NAMES:
            with self.subTest(name=name):
                self.assertEqual(getattr(errors, name).__bases__, (errors.RoundError,))

    def test_none_is_a_subclass_of_another_one(self):
        for name in NAMES:
            for other in NAMES:
                with self.subTest(name=name, other=other):
                    is_one = issubclass(getattr(errors, name), getattr(errors, other))
                    self.assertEqual(is_one, name == other)

    def test_each_can_be_raised_and_caught(self):
        for name in NAMES:
            for caught in (getattr(errors, name), errors.RoundError, ValueError):
                with self.subTest(name=name, caught=caught.__name__), self.assertRaises(caught):
                    raise getattr(errors, name)("why")

    def test_each_is_defined_in_errors(self):
        for name in NAMES + ["RoundError"]:
            with self.subTest(name=name):
                self.assertEqual(getattr(errors, name).__module__, "roundwaves.errors")
                self.assertEqual(getattr(errors, name).__name__, name)


if __name__ == "__main__":
    unittest.main()
