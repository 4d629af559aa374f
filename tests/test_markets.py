"""Points 201, 202 and 203: markets, how they are checked and asked."""

import unittest

from nolunch import markets
from nolunch.errors import MarketError, MomentError, TooLarge
from nolunch.markets import check_market, ends, last_time, moments, nexts, price_of
from samples import (EXAMPLE, GOOD_MARKETS, LINE, MONEY_ALONE, MONEY_TREE, WIDE, chain,
                     check_market_errors, is_plain, price, star)

ONE = ((1, 1), (1, 1))
BAD_PATHS = ((2,), (-1,), (-2,), (0, 0), (1, 0), (0, 1), (0, -1), (5, 5), (0, 0, 0))


class Checking(unittest.TestCase):
    def test_constants(self):
        self.assertEqual((markets.GOODS_LIMIT, markets.MOMENT_LIMIT, markets.TIME_LIMIT), (4, 40, 5))

    def test_markets_are_accepted(self):
        for market in GOOD_MARKETS:
            self.assertIsNone(check_market(market))

    def test_each_fault(self):
        check_market_errors(self, check_market)

    def test_prices_of_0_and_without_spread(self):
        self.assertIsNone(check_market((2, ((price(0, 0),), ()))))
        self.assertIsNone(check_market((2, ((price(1, 0),), ()))))
        self.assertIsNone(check_market((2, ((((2, 3), (2, 3)),), ()))))

    def test_prices_are_compared_as_numbers(self):
        self.assertIsNone(check_market((2, ((((2, 3), (1, 2)),), ()))))
        self.assertIsNone(check_market((2, ((((1, 2), (1, 3)),), ()))))
        self.assertRaises(MarketError, check_market, (2, ((((1, 3), (1, 2)),), ())))
        self.assertRaises(MarketError, check_market, (2, ((((2, 5), (1, 2)),), ())))

    def test_from_one_to_four_goods(self):
        for goods in range(-1, 8):
            market = (goods, ((price(1, 1),) * max(0, goods - 1), ()))
            if 1 <= goods <= 4:
                self.assertIsNone(check_market(market))
            else:
                self.assertRaises(MarketError, check_market, market)

    def test_40_moments_and_41(self):
        self.assertIsNone(check_market((1, star(39))))
        self.assertRaises(TooLarge, check_market, (1, star(40)))
        self.assertIsNone(check_market((1, ((), (star(18), star(19))))))
        self.assertRaises(TooLarge, check_market, (1, ((), (star(19), star(19)))))

    def test_ends_at_the_times_5_and_6(self):
        self.assertIsNone(check_market((1, chain(5))))
        self.assertRaises(TooLarge, check_market, (1, chain(6)))
        self.assertRaises(TooLarge, check_market, (1, chain(9)))

    def test_a_node_that_goes_far_beyond_the_limits(self):
        self.assertRaises(TooLarge, check_market, (1, chain(3000)))
        self.assertRaises(TooLarge, check_market, (1, star(3000)))

    def test_market_error_ahead_of_too_large(self):
        late = (2, ((price(1, 1),), (chain(6, (price(1, 2),)),)))
        self.assertRaises(MarketError, check_market, late)
        end = ((price(1, 1),), ())
        without_price = ((), ())
        last_of_many = (2, ((price(1, 1),), (end,) * 45 + (without_price,)))
        self.assertRaises(MarketError, check_market, last_of_many)
        self.assertRaises(MarketError, check_market, (5, chain(8, (price(1, 1),) * 4)))
        self.assertRaises(MarketError, check_market, (0, star(50)))
        self.assertRaises(MarketError, check_market, (1, ((), (chain(7), chain(6)))))
        self.assertRaises(MarketError, check_market, (1, ((), (chain(0),) * 50 + (chain(1),))))

    def test_errors_come_first_in_every_function(self):
        for call in (moments, ends, last_time, lambda m: nexts(m, (9,)), lambda m: nexts(m, ()),
                     lambda m: price_of(m, (9,), 9), lambda m: price_of(m, (), 0)):
            check_market_errors(self, call)


class Asking(unittest.TestCase):
    def test_example(self):
        market = (2, ((((2, 1), (1, 1)),), (((((3, 1), (2, 1)),), ()), ((((1, 1), (1, 1)),), ()))))
        self.assertEqual(moments(market), ((), (0,), (1,)))
        self.assertEqual(market, EXAMPLE)

    def test_moments_ascend(self):
        self.assertEqual(moments(WIDE), ((), (0,), (0, 0), (0, 1), (1,), (1, 0), (1, 1)))
        self.assertEqual(moments(LINE), ((), (0,), (0, 0)))
        self.assertEqual(moments(MONEY_ALONE), ((),))
        self.assertEqual(moments(MONEY_TREE), ((), (0,), (0, 0), (1,), (1, 0), (1, 1)))
        many = moments((1, star(39)))
        self.assertEqual(many, ((),) + tuple((k,) for k in range(39)))
        self.assertEqual(many, tuple(sorted(many)))

    def test_ends_ascend(self):
        self.assertEqual(ends(WIDE), ((0, 0), (0, 1), (1, 0), (1, 1)))
        self.assertEqual(ends(LINE), ((0, 0),))
        self.assertEqual(ends(EXAMPLE), ((0,), (1,)))
        self.assertEqual(ends(MONEY_ALONE), ((),))
        self.assertEqual(ends((1, star(39))), tuple((k,) for k in range(39)))

    def test_last_time(self):
        for market, time in ((EXAMPLE, 1), (LINE, 2), (WIDE, 2), (MONEY_ALONE, 0),
                             (MONEY_TREE, 2), ((1, chain(5)), 5)):
            self.assertEqual(last_time(market), time)

    def test_price_of(self):
        self.assertEqual(price_of(EXAMPLE, (), 1), price(2, 1))
        self.assertEqual(price_of(EXAMPLE, (0,), 1), price(3, 2))
        self.assertEqual(price_of(EXAMPLE, (1,), 1), price(1, 1))
        self.assertEqual(price_of(LINE, (0,), 1), price(6, 3))
        self.assertEqual(price_of(LINE, (0,), 2), ((1, 2), (1, 3)))
        self.assertEqual(price_of(WIDE, (), 3), ((7, 2), (5, 2)))
        self.assertEqual(price_of(WIDE, (1, 0), 1), price(1, 0))
        self.assertEqual(price_of(WIDE, (0, 1), 3), price(6, 0))

    def test_both_prices_of_money(self):
        for market in GOOD_MARKETS:
            for path in moments(market):
                self.assertEqual(price_of(market, path, 0), ONE)

    def test_price_of_no_moment(self):
        for path in BAD_PATHS:
            for good in (0, 1, 7):
                with self.subTest(path=path, good=good):
                    self.assertRaises(MomentError, price_of, EXAMPLE, path, good)

    def test_price_of_no_good(self):
        for path in moments(EXAMPLE):
            for good in (2, 3, 4, 100, -1, -2, -5):
                self.assertRaises(MomentError, price_of, EXAMPLE, path, good)
        for good in (1, -1):
            self.assertRaises(MomentError, price_of, MONEY_ALONE, (), good)
        self.assertRaises(MomentError, price_of, WIDE, (), 4)
        self.assertRaises(MomentError, price_of, WIDE, (), -1)

    def test_nexts(self):
        self.assertEqual([nexts(WIDE, path) for path in moments(WIDE)], [2, 2, 0, 0, 2, 0, 0])
        self.assertEqual([nexts(LINE, path) for path in moments(LINE)], [1, 1, 0])
        self.assertEqual(nexts(MONEY_ALONE, ()), 0)
        self.assertEqual(nexts((1, star(39)), ()), 39)

    def test_nexts_of_no_moment(self):
        for path in BAD_PATHS:
            self.assertRaises(MomentError, nexts, EXAMPLE, path)
        self.assertRaises(MomentError, nexts, MONEY_ALONE, (0,))
        self.assertRaises(MomentError, nexts, MONEY_ALONE, (-1,))

    def test_negative_index_behind_a_good_one(self):
        self.assertRaises(MomentError, nexts, WIDE, (0, -1))
        self.assertRaises(MomentError, nexts, WIDE, (-1, 0))
        self.assertRaises(MomentError, price_of, WIDE, (1, -2), 1)

    def test_results_are_tuples_and_integers(self):
        for market in GOOD_MARKETS:
            for value in (moments(market), ends(market), last_time(market), nexts(market, ()),
                          price_of(market, (), 0)):
                self.assertTrue(is_plain(value))


if __name__ == "__main__":
    unittest.main()
