"""Points 101 and 102: fractions and their texts."""

import unittest
from fractions import Fraction
from math import gcd

from nolunch.errors import TextError, ZeroDenominator
from nolunch.ratios import (compare, fraction, minus, over, plus, read_fraction, times, total,
                            write_fraction)
from samples import is_plain

SOME = tuple(sorted({fraction(top, bottom) for top in range(-6, 7) for bottom in range(1, 7)}))
LONG = fraction(10 ** 5000 + 7, 3 ** 9000)


def pair(value):
    """The fraction of one of Python's own."""
    return (value.numerator, value.denominator)


class Fractions(unittest.TestCase):
    def check_form(self, value):
        self.assertIs(type(value), tuple)
        self.assertTrue(is_plain(value))
        self.assertEqual(len(value), 2)
        self.assertGreaterEqual(value[1], 1)
        self.assertEqual(gcd(value[0], value[1]), 1)

    def test_fraction_is_in_lowest_terms_with_any_signs(self):
        for top in range(-12, 13):
            for bottom in range(-12, 13):
                if bottom != 0:
                    found = fraction(top, bottom)
                    self.check_form(found)
                    self.assertEqual(found, pair(Fraction(top, bottom)))

    def test_zero_is_zero_over_one(self):
        for bottom in (1, -1, 7, -7, 10 ** 40):
            self.assertEqual(fraction(0, bottom), (0, 1))
        self.assertEqual(minus((1, 3), (1, 3)), (0, 1))
        self.assertEqual(plus((-1, 3), (1, 3)), (0, 1))
        self.assertEqual(times((0, 1), (-5, 3)), (0, 1))
        self.assertEqual(over((0, 1), (-5, 3)), (0, 1))

    def test_fraction_with_denominator_zero(self):
        for top in (-1, 0, 1, 5):
            self.assertRaises(ZeroDenominator, fraction, top, 0)

    def test_four_operations(self):
        for a in SOME:
            for b in SOME:
                x, y = Fraction(*a), Fraction(*b)
                for call, value in ((plus, x + y), (minus, x - y), (times, x * y)):
                    self.assertEqual(call(a, b), pair(value))
                    self.check_form(call(a, b))
                if y != 0:
                    self.assertEqual(over(a, b), pair(x / y))
                    self.check_form(over(a, b))

    def test_over_zero(self):
        for a in ((0, 1), (1, 1), (-2, 3)):
            self.assertRaises(ZeroDenominator, over, a, (0, 1))

    def test_over_a_negative_one(self):
        self.assertEqual(over((1, 2), (-3, 4)), (-2, 3))
        self.assertEqual(over((-1, 2), (-3, 4)), (2, 3))

    def test_compare(self):
        for a in SOME:
            for b in SOME:
                x, y = Fraction(*a), Fraction(*b)
                self.assertEqual(compare(a, b), (x > y) - (x < y))
                self.assertIs(type(compare(a, b)), int)

    def test_compare_is_not_the_order_of_tuples(self):
        self.assertEqual(compare((1, 3), (1, 2)), -1)
        self.assertEqual(compare((2, 5), (1, 2)), -1)
        self.assertEqual(compare((-1, 3), (-1, 2)), 1)

    def test_numbers_of_many_digits(self):
        a, b = fraction(10 ** 300 + 1, 7 ** 200), fraction(-3 ** 400, 10 ** 250 + 3)
        x, y = Fraction(*a), Fraction(*b)
        self.assertEqual(plus(a, b), pair(x + y))
        self.assertEqual(minus(a, b), pair(x - y))
        self.assertEqual(times(a, b), pair(x * y))
        self.assertEqual(over(a, b), pair(x / y))
        self.assertEqual(compare(a, b), 1)
        self.assertEqual(compare((10 ** 300, 10 ** 300 + 1), (10 ** 300 - 1, 10 ** 300)), 1)
        self.assertEqual(fraction(6 * 10 ** 500, -9 * 10 ** 500), (-2, 3))

    def test_total(self):
        self.assertEqual(total(()), (0, 1))
        self.assertEqual(total(((3, 4),)), (3, 4))
        self.assertEqual(total(((1, 2), (-1, 2))), (0, 1))
        self.assertEqual(total(SOME), pair(sum(Fraction(*a) for a in SOME)))
        self.assertEqual(total(((1, 2), (1, 3), (1, 4), (1, 5))), (77, 60))

    def test_example(self):
        self.assertEqual(total(((1, 2), (1, 3), (1, 6))), (1, 1))


class Texts(unittest.TestCase):
    def test_texts(self):
        for value, text in (((0, 1), "0"), ((1, 1), "1"), ((-1, 1), "-1"), ((10, 1), "10"),
                            ((-120, 1), "-120"), ((1, 2), "1/2"), ((-1, 2), "-1/2"),
                            ((-3, 10), "-3/10"), ((22, 7), "22/7"), ((100, 101), "100/101")):
            with self.subTest(text=text):
                self.assertEqual(write_fraction(value), text)
                self.assertEqual(read_fraction(text), value)
                self.assertTrue(is_plain(read_fraction(text)))

    def test_there_and_back(self):
        for a in SOME:
            self.assertEqual(read_fraction(write_fraction(a)), a)

    def test_numbers_of_many_digits_are_written(self):
        for power in (62, 63, 64, 65, 127, 128, 129, 200):
            for shift in (-1, 0, 1, 5 * 10 ** 20):
                number = 10 ** power + shift
                self.assertEqual(write_fraction((number, 1)), str(number))
                self.assertEqual(write_fraction((-number, 1)), str(-number))
                self.assertEqual(write_fraction((1, number)), "1/" + str(number))

    def test_numbers_of_more_digits_than_python_writes_at_once(self):
        top, bottom = write_fraction(LONG).split("/")
        self.assertEqual(len(top) > 1000 and len(bottom) > 1000, True)
        self.assertEqual(write_fraction((-10 ** 6000, 1)), "-1" + "0" * 6000)
        self.assertEqual(write_fraction((10 ** 6000 + 42, 1)), "1" + "0" * 5998 + "42")

    def test_a_text_of_1000_characters_is_read_and_no_longer_one(self):
        self.assertEqual(read_fraction("7" * 1000), (int("7" * 1000), 1))
        self.assertEqual(read_fraction("-" + "7" * 999), (-int("7" * 999), 1))
        bottom = "1" + "0" * 497
        self.assertEqual(read_fraction("7" * 501 + "/" + bottom), (int("7" * 501), 10 ** 497))
        self.assertEqual(len("7" * 501 + "/" + bottom), 1000)
        self.assertRaises(TextError, read_fraction, "7" * 1001)
        self.assertRaises(TextError, read_fraction, "-" + "7" * 1000)
        self.assertRaises(TextError, read_fraction, "7" * 502 + "/" + bottom)
        self.assertRaises(TextError, read_fraction, "7" * 9000)

    def check_refused(self, texts):
        for text in texts:
            with self.subTest(text=text):
                self.assertRaises(TextError, read_fraction, text)

    def test_leading_zeros(self):
        self.check_refused(("00", "01", "-01", "007", "01/2", "1/02", "-01/2", "0" * 1000))

    def test_signs(self):
        self.check_refused(("-0", "+0", "+1", "+1/2", "1/+2", "1/-2", "-1/-2", "--1", "-", "+",
                            "-0/1", "-0/5", "1-", "-/2", "+-1", "-+1"))

    def test_spaces(self):
        self.check_refused((" 1", "1 ", "1 /2", "1/ 2", "- 1", " ", "1\n", "\t1", "1/2\n", "1 2"))

    def test_denominators_of_0_and_1(self):
        self.check_refused(("1/0", "0/0", "-1/0", "1/00", "1/1", "0/1", "-5/1", "12/1"))

    def test_not_in_lowest_terms(self):
        self.check_refused(("2/4", "-2/4", "3/3", "0/2", "10/5", "6/9", "100/10"))

    def test_empty_texts(self):
        self.check_refused(("", "/", "1/", "/2", "//", "1//2", "1/2/3", "-/"))

    def test_characters_that_are_no_digits(self):
        self.check_refused(("a", "1.5", "1,5", "1e3", "0x1", "1_000", "1/2a", "one", "1\\2", "\u00b2",
                            "\u0661", "1/\u0662", "\uff11", "\u00bd", "1\u2044" + "2", "\u22121", "1\0"))


if __name__ == "__main__":
    unittest.main()
