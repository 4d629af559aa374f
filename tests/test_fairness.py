"""Points 402, 403 and 404: judges of sure gains and of fair weights, and middle prices."""

import random
import unittest
from fractions import Fraction

from linear import pair
from nolunch.errors import MomentError, PlanError
from nolunch.fairness import check_fair, check_gain, middle_price
from nolunch.gains import sure_gain
from nolunch.markets import ends, moments, nexts, price_of
from samples import (EXAMPLE, GOOD_MARKETS, LINE, MONEY_ALONE, MONEY_TREE, WIDE,
                     check_market_errors, is_plain, price, whole)
from test_gains import random_market

# The good costs 2 and brings 3 at one of two moments, and 2 at the other.
GAINFUL = (2, ((price(2, 1),), (((price(4, 3),), ()), ((price(4, 2),), ()))))
# Without a spread: from 2 to 3 or 1, so that the weights of both moments are the same.
EVEN = (2, ((price(2, 2),), (((price(3, 3),), ()), ((price(1, 1),), ()))))
EVEN_WEIGHTS = (((0,), ((1, 2), (3, 2))), ((1,), ((1, 2), (1, 2))))
EXAMPLE_WEIGHTS = (((0,), ((1, 2), (5, 4))), ((1,), ((1, 2), (1, 2))))


def changed(weights, end, good, number):
    """Weights with one number changed."""
    return tuple((path, row[:good] + (number,) + row[good + 1:] if path == end else row)
                 for path, row in weights)


class CheckGain(unittest.TestCase):
    def test_told_gains(self):
        source = random.Random(1)
        told = 0
        for branches in ((2,), (3, 2), (2, 2, 2), (1, 1, 3)):
            for goods in (2, 3, 4):
                market = random_market(source, goods, branches, Fraction(1, 20), Fraction(20))
                kind, plan = sure_gain(market)
                self.assertEqual(kind, "gain")
                self.assertIs(check_gain(market, plan), True)
                told += 1
        self.assertEqual(told, 12)
        self.assertIs(check_gain(LINE, sure_gain(LINE)[1]), True)

    def test_a_gain_at_some_end_alone(self):
        plan = (((), ((1, 1),)), ((0,), ((-1, 1),)), ((1,), ((-1, 1),)))
        self.assertIs(check_gain(GAINFUL, plan), True)
        self.assertIs(check_gain(GAINFUL, (((), ((3, 7),)), ((0,), ((-3, 7),)), ((1,), ((-3, 7),)))),
                      True)

    def test_plans_that_lose_somewhere(self):
        # Nothing is sold at the second moment, at the first one, or too much.
        self.assertIs(check_gain(GAINFUL, (((), ((1, 1),)), ((0,), ((-1, 1),)))), False)
        self.assertIs(check_gain(GAINFUL, (((), ((1, 1),)), ((1,), ((-1, 1),)))), False)
        self.assertIs(check_gain(GAINFUL, (((), ((1, 1),)), ((0,), ((-2, 1),)), ((1,), ((-1, 1),)))),
                      False)
        self.assertIs(check_gain(GAINFUL, (((), ((-1, 1),)),)), False)
        # A gain at one end, a loss at the other one.
        self.assertIs(check_gain(EVEN, (((), ((1, 1),)), ((0,), ((-1, 1),)), ((1,), ((-1, 1),)))), False)

    def test_plans_that_win_nowhere(self):
        for market in GOOD_MARKETS + (GAINFUL, EVEN):
            self.assertIs(check_gain(market, ()), False)
            zeros = ((0, 1),) * (market[0] - 1)
            self.assertIs(check_gain(market, tuple((path, zeros) for path in moments(market))), False)
        # A good that costs nothing is held at the ends, but no money.
        free = (2, ((price(0, 0),), (((price(1, 0),), ()), ((price(2, 0),), ()))))
        self.assertIs(check_gain(free, (((), ((5, 1),)),)), False)
        self.assertIs(check_gain(EVEN, (((), ((1, 1),)), ((0,), ((-1, 3),)), ((1,), ((-1, 1),)))), False)

    def test_fair_markets_have_none(self):
        source = random.Random(2)
        market = random_market(source, 3, (2, 2), Fraction(1, 9), Fraction(0))
        for _ in range(60):
            plan = tuple((path, tuple(pair(Fraction(source.randint(-3, 3))) for _ in range(2)))
                         for path in moments(market))
            self.assertIs(check_gain(market, plan), False)

    def test_plans_that_do_not_fit(self):
        one = ((1, 1),)
        for plan in ((((2,), one),), (((-1,), one),), (((0, 0), one),), (((), one), ((), one)),
                     (((1,), one), ((0,), one)), (((0,), one), ((), one)), (((), ()),),
                     (((), one * 2),), (((), one), ((0,), one * 2))):
            with self.subTest(plan=plan):
                self.assertRaises(PlanError, check_gain, EXAMPLE, plan)
        self.assertRaises(PlanError, check_gain, MONEY_ALONE, (((), one),))

    def test_errors_of_the_market_come_first(self):
        check_market_errors(self, lambda market: check_gain(market, (((9,), ()), ((9,), ()))))


class CheckFair(unittest.TestCase):
    def test_told_weights(self):
        source = random.Random(4)
        markets = [EXAMPLE, WIDE, MONEY_ALONE, MONEY_TREE, EVEN]
        for branches in ((), (2,), (3, 2), (2, 2, 2), (1, 1, 4)):
            for goods in (2, 3, 4):
                for spread in (Fraction(0), Fraction(1, 20)):
                    markets.append(random_market(source, goods, branches, spread, Fraction(0)))
        for market in markets:
            kind, weights = sure_gain(market)
            self.assertEqual(kind, "fair")
            self.assertIs(check_fair(market, weights), True)
            # They need not add up to 1.
            double = tuple((end, tuple(pair(2 * Fraction(*number)) for number in row))
                           for end, row in weights)
            self.assertIs(check_fair(market, double), True)

    def test_own_weights(self):
        self.assertIs(check_fair(EXAMPLE, EXAMPLE_WEIGHTS), True)
        self.assertIs(check_fair(EVEN, EVEN_WEIGHTS), True)
        self.assertIs(check_fair(MONEY_ALONE, (((), ((7, 3),)),)), True)

    def test_prices_are_edges(self):
        # At (0,) from 2 to 3 times the money, at () from 1 to 2 times all money.
        for number, fair in (((1, 1), True), ((3, 2), True), ((999, 1000), False),
                             ((1501, 1000), False)):
            weights = changed(EXAMPLE_WEIGHTS, (0,), 1, number)
            self.assertIs(check_fair(EXAMPLE, weights), fair)
        first = (2, ((price(2, 1),), (((price(9, 0),), ()),)))
        for number, fair in (((1, 1), True), ((2, 1), True), ((99, 100), False), ((201, 100), False)):
            self.assertIs(check_fair(first, (((0,), ((1, 1), number)),)), fair)

    def test_changed_numbers(self):
        source = random.Random(5)
        for market in (EVEN, random_market(source, 3, (2, 2), Fraction(0), Fraction(0))):
            weights = sure_gain(market)[1]
            for end, row in weights:
                for good in range(market[0]):
                    more = pair(Fraction(*row[good]) + Fraction(1, 1000))
                    with self.subTest(end=end, good=good):
                        self.assertIs(check_fair(market, changed(weights, end, good, more)), False)

    def test_weights_of_money_that_are_0(self):
        market = (2, ((price(3, 2),), (((price(3, 2),), ()), ((price(3, 2),), ()))))
        weights = (((0,), ((1, 1), (5, 2))), ((1,), ((0, 1), (0, 1))))
        self.assertIs(check_fair(market, weights), False)
        self.assertIs(check_fair(market, changed(changed(weights, (1,), 0, (1, 9)), (1,), 1, (2, 9))),
                      True)
        self.assertIs(check_fair(MONEY_ALONE, (((), ((0, 1),)),)), False)

    def test_negative_numbers(self):
        self.assertIs(check_fair(MONEY_ALONE, (((), ((-1, 1),)),)), False)
        minus_all = tuple((end, tuple((-n, d) for n, d in row)) for end, row in EXAMPLE_WEIGHTS)
        self.assertIs(check_fair(EXAMPLE, minus_all), False)
        # All sums fit, but one number is below 0.
        broad = (2, ((price(9, 0),), (((price(9, 0),), ()), ((price(9, 0),), ()))))
        self.assertIs(check_fair(broad, (((0,), ((1, 1), (0, 1))), ((1,), ((1, 1), (0, 1))))), True)
        self.assertIs(check_fair(broad, (((0,), ((1, 1), (-1, 9))), ((1,), ((1, 1), (1, 1))))), False)
        self.assertIs(check_fair(broad, (((0,), ((-1, 9), (0, 1))), ((1,), ((1, 1), (1, 1))))), False)

    def test_forms_that_do_not_fit(self):
        first, second = EXAMPLE_WEIGHTS
        for weights in ((), (first,), (second,), (first, second, second), (second, first),
                        (first, first), (((), first[1]), second), (((0, 0), first[1]), second),
                        (first, ((2,), second[1])), (((-2,), first[1]), ((-1,), second[1])),
                        (first, ((1,), second[1] + ((0, 1),))), (first, ((1,), second[1][:1])),
                        (first, ((1,), ())), tuple((end, row + ((1, 1),)) for end, row in EXAMPLE_WEIGHTS)):
            with self.subTest(weights=weights):
                self.assertIs(check_fair(EXAMPLE, weights), False)
        self.assertIs(check_fair(MONEY_ALONE, (((), ((1, 1), (1, 1))),)), False)
        self.assertIs(check_fair(MONEY_ALONE, (((0,), ((1, 1),)),)), False)
        # Weights for all moments instead of the ends.
        self.assertIs(check_fair(EXAMPLE, (((), ((1, 1), (7, 4))),) + EXAMPLE_WEIGHTS), False)

    def test_markets_with_a_sure_gain_have_none(self):
        for first in ((1, 2), (2, 3)):
            for second in ((1, 1), (3, 2), (2, 1), (3, 1)):
                weights = (((0,), ((1, 2), first)), ((1,), ((1, 2), second)))
                self.assertIs(check_fair(GAINFUL, weights), False)

    def test_errors_of_the_market_come_first(self):
        check_market_errors(self, lambda market: check_fair(market, ()))


class MiddlePrice(unittest.TestCase):
    def test_known_ones(self):
        for path, middle in (((), (7, 4)), ((0,), (5, 2)), ((1,), (1, 1))):
            self.assertEqual(middle_price(EXAMPLE, EXAMPLE_WEIGHTS, path, 1), middle)
            self.assertEqual(middle_price(EXAMPLE, EXAMPLE_WEIGHTS, path, 0), (1, 1))
        double = tuple((end, tuple(pair(2 * Fraction(*number)) for number in row))
                       for end, row in EXAMPLE_WEIGHTS)
        self.assertEqual(middle_price(EXAMPLE, double, (), 1), (7, 4))
        uneven = (((0,), ((1, 4), (1, 2))), ((1,), ((3, 4), (3, 4))))
        self.assertEqual(middle_price(EXAMPLE, uneven, (), 1), (5, 4))

    def test_between_the_prices_and_the_mean_of_the_next_ones(self):
        source = random.Random(7)
        markets = [EXAMPLE, WIDE, MONEY_TREE, EVEN]
        markets += [random_market(source, goods, branches, Fraction(1, 9), Fraction(0))
                    for goods in (2, 3, 4) for branches in ((2, 3), (2, 2, 2))]
        for market in markets:
            weights = sure_gain(market)[1]
            behind = {path: sum(Fraction(*row[0]) for end, row in weights if end[:len(path)] == path)
                      for path in moments(market)}
            for path in moments(market):
                for good in range(market[0]):
                    told = middle_price(market, weights, path, good)
                    self.assertTrue(is_plain(told))
                    self.assertEqual(pair(Fraction(*told)), told)
                    buy, sell = price_of(market, path, good)
                    self.assertTrue(Fraction(*sell) <= Fraction(*told) <= Fraction(*buy))
                    if path not in ends(market):
                        shares = [behind[path + (k,)] * Fraction(
                            *middle_price(market, weights, path + (k,), good))
                            for k in range(nexts(market, path))]
                        self.assertEqual(sum(shares) / behind[path], Fraction(*told))

    def test_moments_and_goods_that_are_none(self):
        for path in ((2,), (-1,), (0, 0), (-2,), (9,)):
            for good in (0, 1, 2):
                self.assertRaises(MomentError, middle_price, EXAMPLE, EXAMPLE_WEIGHTS, path, good)
        for path in ((), (0,), (1,)):
            for good in (2, -1, -2, 9):
                self.assertRaises(MomentError, middle_price, EXAMPLE, EXAMPLE_WEIGHTS, path, good)
        self.assertRaises(MomentError, middle_price, MONEY_ALONE, (((), (whole(1),)),), (), 1)
        self.assertRaises(MomentError, middle_price, MONEY_ALONE, (((), (whole(1),)),), (0,), 0)

    def test_errors_of_the_market_come_first(self):
        check_market_errors(self, lambda market: middle_price(market, (((), ()),), (9,), -1))


if __name__ == "__main__":
    unittest.main()
