"""Point 204: markets from markets."""

import unittest

from nolunch.changing import market_at, turned, widened
from nolunch.errors import MarketError, MomentError
from nolunch.markets import check_market, ends, moments, nexts, price_of
from nolunch.ratios import over, times
from samples import (EXAMPLE, GOOD_MARKETS, LINE, MONEY_ALONE, MONEY_TREE, WIDE,
                     check_market_errors, is_plain, price)


class Widened(unittest.TestCase):
    def test_prices_are_multiplied_and_divided(self):
        for factor in ((3, 2), (2, 1), (101, 100)):
            for market in GOOD_MARKETS:
                wider = widened(market, factor)
                self.assertIsNone(check_market(wider))
                self.assertTrue(is_plain(wider))
                self.assertEqual(wider[0], market[0])
                self.assertEqual(moments(wider), moments(market))
                for path in moments(market):
                    for good in range(1, market[0]):
                        buy, sell = price_of(market, path, good)
                        self.assertEqual(price_of(wider, path, good),
                                         (times(buy, factor), over(sell, factor)))

    def test_of_the_example(self):
        self.assertEqual(widened(EXAMPLE, (3, 2)), (
            2, ((((3, 1), (2, 3)),),
                (((((9, 2), (4, 3)),), ()), ((((3, 2), (2, 3)),), ())))))

    def test_factor_1_changes_nothing(self):
        for market in GOOD_MARKETS:
            self.assertEqual(widened(market, (1, 1)), market)

    def test_factor_below_1(self):
        for factor in ((99, 100), (1, 2), (0, 1), (-1, 1), (-2, 1), (-1, 2)):
            for market in (EXAMPLE, MONEY_ALONE):
                self.assertRaises(MarketError, widened, market, factor)

    def test_errors_of_the_market_come_first(self):
        check_market_errors(self, lambda market: widened(market, (1, 2)))
        check_market_errors(self, lambda market: widened(market, (2, 1)))


class Turned(unittest.TestCase):
    def test_goods_are_what_the_order_says(self):
        for market, order in ((WIDE, (0, 2, 3, 1)), (WIDE, (0, 3, 2, 1)), (WIDE, (0, 1, 3, 2)),
                              (LINE, (0, 2, 1))):
            other = turned(market, order)
            self.assertIsNone(check_market(other))
            self.assertTrue(is_plain(other))
            self.assertEqual(moments(other), moments(market))
            for path in moments(market):
                for good in range(market[0]):
                    self.assertEqual(price_of(other, path, good),
                                     price_of(market, path, order[good]))

    def test_first_prices(self):
        first = turned(WIDE, (0, 2, 3, 1))[1][0]
        self.assertEqual(first, (price(3, 3), ((7, 2), (5, 2)), price(2, 1)))

    def test_the_same_order_changes_nothing(self):
        for market in GOOD_MARKETS:
            self.assertEqual(turned(market, tuple(range(market[0]))), market)

    def test_wrong_orders(self):
        for order in ((), (0,), (0, 1), (0, 1, 2, 3), (1, 0, 2), (2, 1, 0), (0, 1, 1), (0, 0, 1),
                      (0, 1, 3), (0, 2, 2), (0, -1, 1), (-1, 1, 2), (0, 1, -2), (1, 2, 0),
                      (0, 0, 0), (0, 1, 2, 2)):
            with self.subTest(order=order):
                self.assertRaises(MarketError, turned, LINE, order)

    def test_wrong_orders_of_one_good(self):
        for order in ((), (1,), (-1,), (0, 0), (0, 1)):
            self.assertRaises(MarketError, turned, MONEY_TREE, order)

    def test_errors_of_the_market_come_first(self):
        check_market_errors(self, lambda market: turned(market, (1, 1)))
        check_market_errors(self, lambda market: turned(market, (0,)))


class MarketAt(unittest.TestCase):
    def test_at_the_first_moment(self):
        for market in GOOD_MARKETS:
            self.assertEqual(market_at(market, ()), market)

    def test_at_an_end(self):
        self.assertEqual(market_at(EXAMPLE, (0,)), (2, ((price(3, 2),), ())))
        self.assertEqual(market_at(EXAMPLE, (1,)), (2, ((price(1, 1),), ())))
        for market in GOOD_MARKETS:
            for path in ends(market):
                self.assertEqual(moments(market_at(market, path)), ((),))

    def test_between(self):
        for path in moments(WIDE):
            rest = market_at(WIDE, path)
            self.assertIsNone(check_market(rest))
            for later in moments(rest):
                self.assertEqual(nexts(rest, later), nexts(WIDE, path + later))
                for good in range(4):
                    self.assertEqual(price_of(rest, later, good), price_of(WIDE, path + later, good))
        self.assertEqual(market_at(LINE, (0,)), (3, LINE[1][1][0]))

    def test_at_no_moment(self):
        for path in ((2,), (-1,), (0, 0), (1, 0), (0, -1)):
            self.assertRaises(MomentError, market_at, EXAMPLE, path)
        self.assertRaises(MomentError, market_at, MONEY_ALONE, (0,))
        self.assertRaises(MomentError, market_at, WIDE, (0, 0, 0))

    def test_errors_of_the_market_come_first(self):
        check_market_errors(self, lambda market: market_at(market, ()))
        check_market_errors(self, lambda market: market_at(market, (9, -1)))


if __name__ == "__main__":
    unittest.main()
