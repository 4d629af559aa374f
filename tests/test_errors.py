"""Point 3: the error classes."""

import unittest

from nolunch import errors

NAMES = ("ZeroDenominator", "TextError", "MarketError", "TooLarge", "MomentError", "PlanError",
         "ProgramError", "ContractError", "HistoryError", "WayError", "SureGain", "DealError",
         "UnsafeError", "PendingError", "JournalError")


class ErrorClasses(unittest.TestCase):
    def test_marketplace_error_stands_under_value_error(self):
        self.assertEqual(errors.MarketplaceError.__bases__, (ValueError,))

    def test_all_others_stand_directly_under_it(self):
        for name in NAMES:
            with self.subTest(name=name):
                self.assertEqual(getattr(errors, name).__bases__, (errors.MarketplaceError,))

    def test_they_are_different_classes_of_this_file(self):
        classes = [getattr(errors, name) for name in NAMES + ("MarketplaceError",)]
        self.assertEqual(len(set(classes)), 16)
        self.assertEqual({each.__module__ for each in classes}, {"nolunch.errors"})

    def test_they_can_be_raised_and_caught_as_value_errors(self):
        for name in NAMES:
            with self.subTest(name=name), self.assertRaises(ValueError):
                raise getattr(errors, name)("told")


if __name__ == "__main__":
    unittest.main()
