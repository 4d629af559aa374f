"""Point 205: texts of markets."""

import unittest

from nolunch.errors import MarketError, TextError, TooLarge
from nolunch.markets import check_market
from nolunch.notation import read_market, write_market
from samples import (EXAMPLE, GOOD_MARKETS, LINE, MONEY_ALONE, MONEY_TREE, WIDE, chain,
                     check_market_errors, is_plain, price, star)

EXAMPLE_TEXT = "goods 2\nmoment - 2 1\nmoment 0 3 2\nmoment 1 1 1\n"
LINE_TEXT = "goods 3\nmoment - 5 4 2 2\nmoment 0 6 3 1/2 1/3\nmoment 0.0 4 4 1 0\n"
TREE_TEXT = "goods 1\nmoment -\nmoment 0\nmoment 0.0\nmoment 1\nmoment 1.0\nmoment 1.1\n"


class Writing(unittest.TestCase):
    def test_texts(self):
        self.assertEqual(write_market(EXAMPLE), EXAMPLE_TEXT)
        self.assertEqual(write_market(LINE), LINE_TEXT)
        self.assertEqual(write_market(MONEY_ALONE), "goods 1\nmoment -\n")
        self.assertEqual(write_market(MONEY_TREE), TREE_TEXT)
        self.assertEqual(write_market((2, ((((1, 2), (1, 3)),), ()))), "goods 2\nmoment - 1/2 1/3\n")
        self.assertEqual(write_market(WIDE).split("\n")[:3],
                         ["goods 4", "moment - 2 1 3 3 7/2 5/2", "moment 0 2 2 4 3 5 2"])

    def test_indexes_of_two_digits(self):
        lines = write_market((1, star(39))).split("\n")
        self.assertEqual(lines[11:13], ["moment 9", "moment 10"])
        self.assertEqual(lines[-2:], ["moment 38", ""])

    def test_errors_of_the_market(self):
        check_market_errors(self, write_market)


class Reading(unittest.TestCase):
    def test_there_and_back(self):
        for market in GOOD_MARKETS + ((1, star(39)), (1, chain(5)), (3, star(12, (price(1, 0),) * 2))):
            again = read_market(write_market(market))
            self.assertEqual(again, market)
            self.assertTrue(is_plain(again))
            self.assertIsNone(check_market(again))

    def test_texts(self):
        self.assertEqual(read_market(EXAMPLE_TEXT), EXAMPLE)
        self.assertEqual(read_market(LINE_TEXT), LINE)
        self.assertEqual(read_market(TREE_TEXT), MONEY_TREE)
        self.assertEqual(read_market("goods 1\nmoment -\n"), MONEY_ALONE)

    def test_long_numbers_in_prices(self):
        digits = "7" * 1000
        market = read_market("goods 2\nmoment - " + digits + " 1\n")
        self.assertEqual(market, (2, ((((int(digits), 1), (1, 1)),), ())))
        self.assertEqual(write_market(market), "goods 2\nmoment - " + digits + " 1\n")
        self.assertRaises(TextError, read_market, "goods 2\nmoment - " + digits + "7 1\n")

    def check_refused(self, texts):
        for text in texts:
            with self.subTest(text=text):
                self.assertRaises(TextError, read_market, text)

    def test_line_feeds(self):
        self.check_refused((EXAMPLE_TEXT[:-1], EXAMPLE_TEXT + "\n", "\n" + EXAMPLE_TEXT,
                            EXAMPLE_TEXT.replace("\n", "\r\n"), EXAMPLE_TEXT.replace("\n", "\n\n"),
                            EXAMPLE_TEXT + " ", "goods 1\nmoment -", "goods 1 moment -\n"))

    def test_empty_texts(self):
        self.check_refused(("", "\n", " ", "\n\n", " \n"))

    def test_empty_words(self):
        self.check_refused((EXAMPLE_TEXT.replace("goods 2", "goods  2"),
                            EXAMPLE_TEXT.replace("goods 2", "goods 2 "),
                            EXAMPLE_TEXT.replace("goods 2", " goods 2"),
                            EXAMPLE_TEXT.replace("moment -", "moment  -"),
                            EXAMPLE_TEXT.replace("moment 0 3 2", " moment 0 3 2"),
                            EXAMPLE_TEXT.replace("moment 0 3 2", "moment 0 3 2 "),
                            EXAMPLE_TEXT.replace("moment 0 3 2", "moment 0 3  2"),
                            EXAMPLE_TEXT.replace("moment 0 3 2", "moment  0 3 2"),
                            EXAMPLE_TEXT.replace("moment 0 3 2", "moment 0 3\t2"),
                            EXAMPLE_TEXT[:-1] + " \n", "goods 1\nmoment - \n", "goods 1\nmoment \n",
                            "goods 1\nmoment\n", "goods \nmoment -\n", "goods\nmoment -\n"))

    def test_goods_lines(self):
        moments = EXAMPLE_TEXT[len("goods 2\n"):]
        self.check_refused((moments, "goods 2\n" + EXAMPLE_TEXT, moments + "goods 2\n",
                            EXAMPLE_TEXT.replace("moment 0", "goods 2\nmoment 0"),
                            "good 2\n" + moments, "Goods 2\n" + moments, "goods 2 2\n" + moments,
                            "goods two\n" + moments, "goods 02\n" + moments, "goods +2\n" + moments,
                            "goods -1\nmoment -\n", "goods 2.0\n" + moments, "goods 4/2\n" + moments, "2\n" + moments,
                            "goods \u0662\n" + moments, "goods 2\n", "goods 1\n"))

    def test_moment_words(self):
        self.check_refused((EXAMPLE_TEXT.replace("moment 0", "moments 0"),
                            EXAMPLE_TEXT.replace("moment 0", "Moment 0"),
                            EXAMPLE_TEXT.replace("moment 0 ", "0 "),
                            EXAMPLE_TEXT.replace("moment -", "moment 0"),
                            EXAMPLE_TEXT.replace("moment 0", "moment -"),
                            EXAMPLE_TEXT.replace("moment -", "moment")))

    def test_moments_that_do_not_ascend(self):
        self.check_refused(("goods 1\nmoment -\nmoment 1\nmoment 0\n",
                            "goods 1\nmoment 0\nmoment -\n",
                            "goods 1\nmoment -\nmoment -\n",
                            "goods 1\nmoment -\nmoment 0\nmoment 0\n",
                            "goods 1\nmoment -\nmoment 0\nmoment -\n",
                            "goods 1\nmoment -\nmoment 0\nmoment 1\nmoment 0.0\nmoment 1.0\n",
                            "goods 1\nmoment -\nmoment 0\nmoment 0.1\nmoment 0.0\n"))

    def test_moments_without_those_from_which_they_come(self):
        self.check_refused(("goods 1\nmoment 0\n",
                            "goods 1\nmoment 0\nmoment 1\n",
                            "goods 1\nmoment -\nmoment 0.0\n",
                            "goods 1\nmoment -\nmoment 0\nmoment 0.0.0\n",
                            "goods 1\nmoment -\nmoment 0\nmoment 1.0\n",
                            "goods 1\nmoment -\nmoment 0\nmoment 0.0\nmoment 1.0\n"))

    def test_gaps(self):
        self.check_refused(("goods 1\nmoment -\nmoment 1\n",
                            "goods 1\nmoment -\nmoment 0\nmoment 2\n",
                            "goods 1\nmoment -\nmoment 0\nmoment 0.1\n",
                            "goods 1\nmoment -\nmoment 0\nmoment 0.0\nmoment 0.2\n",
                            "goods 1\nmoment -\nmoment 0\nmoment 0.0\nmoment 2\nmoment 2.0\n"))

    def test_indexes(self):
        self.check_refused(("goods 1\nmoment -\nmoment 00\n",
                            "goods 1\nmoment -\nmoment 0\nmoment 01\n",
                            "goods 1\nmoment -\nmoment 0\nmoment 0.00\n",
                            "goods 1\nmoment -\nmoment -0\n",
                            "goods 1\nmoment -\nmoment +0\n",
                            "goods 1\nmoment -\nmoment -1\n",
                            "goods 1\nmoment -\nmoment 0\nmoment 0.\n",
                            "goods 1\nmoment -\nmoment 0\nmoment .0\n",
                            "goods 1\nmoment -\nmoment 0\nmoment 0..0\n",
                            "goods 1\nmoment -\nmoment .\n",
                            "goods 1\nmoment -\nmoment 0\nmoment 0,0\n",
                            "goods 1\nmoment -\nmoment 0\nmoment -.0\n",
                            "goods 1\nmoment -\nmoment a\n",
                            "goods 1\nmoment --\n",
                            "goods 1\nmoment -\nmoment \u0660\n"))

    def test_integers_of_ten_digits(self):
        self.check_refused(("goods 1000000000\nmoment -\n", "goods 0000000001\nmoment -\n",
                            "goods 1\nmoment -\nmoment 1000000000\n",
                            "goods 1\nmoment -\nmoment 0000000000\n"))

    def test_numbers_of_words_that_do_not_fit(self):
        self.check_refused((EXAMPLE_TEXT.replace("3 2", "3"), EXAMPLE_TEXT.replace("3 2", "3 2 1"),
                            EXAMPLE_TEXT.replace("3 2", "3 2 1 1"), EXAMPLE_TEXT.replace(" 3 2", ""),
                            EXAMPLE_TEXT.replace("goods 2", "goods 1"),
                            EXAMPLE_TEXT.replace("goods 2", "goods 3"),
                            EXAMPLE_TEXT.replace("goods 2", "goods 0"),
                            EXAMPLE_TEXT.replace("goods 2", "goods 999999999"),
                            "goods 1\nmoment - 1\n", "goods 1\nmoment - 1 1\n",
                            "goods 2\nmoment -\n", "goods 3\nmoment - 1 1\n",
                            "goods 0\nmoment - 1 1\n"))

    def test_fractions_that_are_written_in_another_way(self):
        for word in ("2/1", "4/2", "02", "+2", "-0", "2.0", "2/0", "1/", "/2", "a", "0/3", "--2"):
            with self.subTest(word=word):
                self.assertRaises(TextError, read_market, "goods 2\nmoment - " + word + " 0\n")
                self.assertRaises(TextError, read_market, "goods 2\nmoment - 5 " + word + "\n")

    def check_raised(self, error, text):
        self.assertRaises(error, read_market, text)

    def test_errors_of_the_market_behind_those_of_the_form(self):
        self.check_raised(MarketError, "goods 0\nmoment -\n")
        self.check_raised(MarketError, "goods 5\nmoment - 1 1 1 1 1 1 1 1\n")
        self.check_raised(MarketError, "goods 2\nmoment - 1 2\n")
        self.check_raised(MarketError, "goods 2\nmoment - 1/3 1/2\n")
        self.check_raised(MarketError, "goods 2\nmoment - 1 -1\n")
        self.check_raised(MarketError, "goods 2\nmoment - -1 -2\n")
        self.check_raised(MarketError, "goods 1\nmoment -\nmoment 0\nmoment 1\nmoment 1.0\n")
        self.check_raised(TooLarge, self.star_text(40))
        self.check_raised(TooLarge, self.chain_text(6))
        self.check_raised(TooLarge, self.chain_text(400))
        self.assertEqual(read_market(self.star_text(39)), (1, star(39)))
        self.assertEqual(read_market(self.chain_text(5)), (1, chain(5)))

    def test_several_errors(self):
        self.check_raised(TextError, "goods 5\nmoment - 1 1\n")
        self.check_raised(TextError, "goods 2\nmoment - 1 2\nmoment 1 1 1\n")
        self.check_raised(TextError, self.star_text(50)[:-1])
        self.check_raised(TextError, self.star_text(50) + "moment 51\n")
        self.check_raised(MarketError, self.star_text(50) + "moment 50\nmoment 50.0\n")
        self.check_raised(MarketError, self.chain_text(8).replace("goods 1", "goods 0"))

    @staticmethod
    def star_text(many):
        return "goods 1\nmoment -\n" + "".join(f"moment {k}\n" for k in range(many))

    @staticmethod
    def chain_text(length):
        paths = ["-"] + [".".join("0" * (k + 1)) for k in range(length)]
        return "goods 1\n" + "".join(f"moment {path}\n" for path in paths)


if __name__ == "__main__":
    unittest.main()
