"""Decimal texts of integers, as points 102, 205 and 504 use them."""

import unittest

from nolunch.errors import TextError
from nolunch.integers import read_integer, read_natural, write_integer


class Integers(unittest.TestCase):
    def test_naturals_of_at_most_nine_digits(self):
        for number in (0, 1, 9, 10, 12345, 999999999):
            self.assertEqual(read_natural(str(number)), number)
        for text in ("1000000000", "0000000001", "00", "01", "-1", "-0", "+1", "", " 1", "1 ", "1.0",
                     "1_0", "a", "\u0661", "\u00b2"):
            with self.subTest(text=text):
                self.assertRaises(TextError, read_natural, text)

    def test_integers_of_at_most_nine_digits(self):
        for number in (0, 1, -1, 10, -10, 999999999, -999999999):
            self.assertEqual(read_integer(str(number)), number)
        for text in ("-0", "-00", "-01", "--1", "+1", "-+1", "- 1", "-", "", "1000000000", "-1000000000",
                     "1-", "01", "-\u0661"):
            with self.subTest(text=text):
                self.assertRaises(TextError, read_integer, text)

    def test_integers_of_any_length(self):
        for power in (0, 1, 63, 64, 65, 128, 1000):
            for number in (10 ** power - 1, 10 ** power, 10 ** power + 1):
                self.assertEqual(write_integer(number), str(number))
                self.assertEqual(write_integer(-number), str(-number))
        self.assertEqual(write_integer(-10 ** 5000), "-1" + "0" * 5000)


if __name__ == "__main__":
    unittest.main()
