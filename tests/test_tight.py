"""Part 11: tight prices."""

import random
import time
import unittest
from fractions import Fraction

from linear import numbers, pair
from nolunch.errors import MomentError, SureGain, TooLarge
from nolunch.fairness import check_fair, middle_price
from nolunch.gains import sure_gain
from nolunch.hedging import interval
from nolunch.markets import check_market, ends, moments, price_of
from nolunch.programs import best_of
from nolunch.texts import read_contract
from nolunch.tight import tight_price, tightened
from playing import CONTRACTS, EVEN, FAIR_MARKETS, SPREAD, STEPS, THREE
from samples import (EXAMPLE, MONEY_ALONE, MONEY_TREE, WIDE, check_market_errors, is_plain, price)
from test_gains import random_market
from test_hedging import GAIN

ONE = Fraction(1)


def node(buy, sell, *nodes):
    return (((pair(buy), pair(sell)),), nodes)


def fair_rows(market):
    """Rows that weights keep that are fair or that fair ones come near to; a variable for each number."""
    rows = []
    for path in moments(market):
        for good in range(1, market[0]):
            buy, sell = numbers(price_of(market, path, good))
            for sign, bound in ((1, buy), (-1, sell)):
                row = []
                for end in ends(market):
                    behind = int(end[:len(path)] == path)
                    row += [-sign * bound * behind]
                    row += [sign * behind * int(each == good) for each in range(1, market[0])]
                rows.append((row, Fraction(0)))
    return rows


def extreme(market, path, good, sign):
    """The weights with 1 of money behind a moment that tell the least or the greatest price there."""
    goods = market[0]
    places = [(end, each) for end in ends(market) for each in range(goods)]
    behind = [int(end[:len(path)] == path) for end, _ in places]
    money = [here * int(each == 0) for here, (_, each) in zip(behind, places)]
    rows = fair_rows(market) + [(money, ONE), ([-number for number in money], -ONE)]
    gains = [sign * here * int(each == good) for here, (_, each) in zip(behind, places)]
    kind, point, _ = best_of((tuple(pair(gain) for gain in gains),
                              tuple((tuple(pair(n) for n in row), pair(bound)) for row, bound in rows)))
    assert kind == "best"
    found = numbers(point)
    return (sum(gain * sign * number for gain, number in zip(gains, found)),
            tuple((end, found[k * goods:(k + 1) * goods]) for k, end in enumerate(ends(market))))


def hold_tight(test, market):
    """Hold the tight price of each good at each moment against point 1101."""
    _, fair = sure_gain(market)
    for path in moments(market):
        for good in range(market[0]):
            found = tight_price(market, path, good)
            test.assertTrue(is_plain(found))
            low, high = numbers(found)
            for sign, bound in ((1, high), (-1, low)):
                told, weights = extreme(market, path, good, sign)
                test.assertEqual(told, bound, (path, good))
                # A little of fair weights makes them fair, with a middle price close by.
                mixed = tuple((end, tuple(pair(a + Fraction(*b) / 1000) for a, b in zip(row, more)))
                              for (end, row), (_, more) in zip(weights, fair))
                test.assertTrue(check_fair(market, mixed))
                middle = Fraction(*middle_price(market, mixed, path, good))
                test.assertLessEqual(abs(middle - bound), (high - low) / 1000)
            buy, sell = numbers(price_of(market, path, good))
            middle = Fraction(*middle_price(market, fair, path, good))
            test.assertTrue(sell <= low <= middle <= high <= buy)


class TightPrice(unittest.TestCase):
    def check(self, market, path, low, high):
        with self.subTest(market=market, path=path):
            self.assertEqual(tight_price(market, path, 1), (pair(low), pair(high)))

    def test_without_spreads(self):
        for market in (EVEN, STEPS):
            for path in moments(market):
                buy, sell = price_of(market, path, 1)
                self.assertEqual(tight_price(market, path, 1), (sell, buy))
            hold_tight(self, market)

    def test_money(self):
        for market in FAIR_MARKETS + (MONEY_ALONE, MONEY_TREE, WIDE):
            for path in moments(market):
                self.assertEqual(tight_price(market, path, 0), ((1, 1), (1, 1)))

    def test_one_moment(self):
        self.check((2, node(3, 2)), (), 2, 3)
        self.check((2, node(1, 0)), (), 0, 1)
        self.check((2, node(0, 0)), (), 0, 0)

    def test_one_next_moment(self):
        market = (2, node(5, 2, node(4, 3)))
        self.check(market, (), 3, 4)
        self.check(market, (0,), 3, 4)
        market = (2, node(4, 3, node(5, 2)))
        self.check(market, (), 3, 4)
        self.check(market, (0,), 3, 4)
        market = (2, node(4, 2, node(5, 3, node(7, 1))))
        for path in ((), (0,), (0, 0)):
            self.check(market, path, 3, 4)
        market = (2, node(4, 2, node(5, 4, node(7, 1))))
        for path in ((), (0,), (0, 0)):
            self.check(market, path, 4, 4)

    def test_several_next_moments(self):
        self.check(SPREAD, (), 1, 2)
        self.check(SPREAD, (0,), 2, 3)
        self.check(SPREAD, (1,), 1, 1)
        # The first price is between the least and the greatest ones behind.
        market = (2, node(9, 0, node(5, 4), node(3, 2)))
        self.check(market, (), 2, 5)
        self.check(market, (0,), 4, 5)
        self.check(market, (1,), 2, 3)
        # Each next price has the other one on the other side of 3.
        market = (2, node(3, 3, node(5, 1), node(4, 2)))
        self.check(market, (0,), 1, 5)
        self.check(market, (1,), 2, 4)
        market = (2, node(3, 3, node(5, 1), node(3, 2)))
        self.check(market, (0,), 3, 5)
        market = (2, node(3, 3, node(5, 1), node(3, 3)))
        # It is left out as much as one likes, but never wholly; so the other one makes up for it.
        self.check(market, (0,), 3, 3)
        market = (2, node(3, 3, node(5, 1), node(2, 2)))
        self.check(market, (0,), 3, 5)

    def test_moments_that_some_weights_leave_out(self):
        # With the greatest price at first, nothing is left for the second next moment.
        market = (2, node(4, 1, node(4, 3), node(2, 1)))
        self.check(market, (), 1, 4)
        self.check(market, (1,), 1, 2)
        # Both are at the only price that lets them both come.
        market = (2, node(2, 2, node(3, 2), node(5, 2)))
        for path in ((), (0,), (1,)):
            self.check(market, path, 2, 2)
        market = (2, node(3, 1, node(3, 2), node(5, 3), node(3, 3)))
        self.check(market, (), 2, 3)
        for path, low, high in (((0,), 2, 3), ((1,), 3, 5), ((2,), 3, 3)):
            self.check(market, path, low, high)
        for market in (market, (2, node(2, 2, node(3, 2), node(5, 2)))):
            hold_tight(self, market)

    def test_goods_that_go_together(self):
        # Good 2 is at the same weights as good 1: one half of each next moment.
        market = (3, ((price(2, 2), price(9, 0)),
                      (((price(3, 3), price(6, 6)), ()), ((price(1, 1), price(4, 4)), ()))))
        self.assertEqual(tight_price(market, (), 2), ((5, 1), (5, 1)))
        self.assertEqual(interval(market, ("one", 2)), ((5, 1), (5, 1)))
        hold_tight(self, market)

    def test_at_first_it_is_what_a_unit_costs(self):
        for market in FAIR_MARKETS + (EXAMPLE, WIDE):
            for good in range(market[0]):
                self.assertEqual(tight_price(market, (), good), interval(market, ("one", good)))

    def test_against_fair_weights(self):
        for market in (SPREAD, THREE, WIDE, MONEY_TREE):
            hold_tight(self, market)

    def test_random_markets_against_fair_weights(self):
        source = random.Random(20)
        for goods, branches in ((2, (2, 2)), (2, (1, 3)), (3, (2,)), (3, (3,)), (2, (2, 1, 2)), (3, (1, 2)),
                                (4, (2,)), (2, (3, 2))):
            for spread in (Fraction(1, 20), Fraction(1, 4)):
                market = loosened(source, random_market(source, goods, branches, spread, Fraction(0)))
                if sure_gain(market)[0] == "fair":
                    with self.subTest(market=market):
                        hold_tight(self, market)

    def test_errors_in_their_order(self):
        check_market_errors(self, lambda market: tight_price(market, (9,), 9))
        for market in (SPREAD, THREE, GAIN):
            for path, good in (((2, 0, 0), 0), ((-1,), 1), ((9,), 1), ((), -1), ((), market[0]), ((0,), 9)):
                self.assertRaises(MomentError, tight_price, market, path, good)
        for path in ((), (0,), (5,)):
            for good in (0, 1):
                self.assertRaises(SureGain, tight_price, GAIN, path, good)


def loosened(source, market):
    """A market with some prices that are further away from each other."""
    def looser(told):
        prices, following = told
        prices = tuple((pair(Fraction(*buy) * source.choice((1, 1, 2))),
                        pair(Fraction(*sell) * source.choice((1, 1, Fraction(1, 3)))))
                       for buy, sell in prices)
        return (prices, tuple(looser(each) for each in following))
    return (market[0], looser(market[1]))


class Tightened(unittest.TestCase):
    def check(self, market):
        found = tightened(market)
        self.assertTrue(is_plain(found))
        check_market(found)
        self.assertEqual(moments(found), moments(market))
        for path in moments(market):
            for good in range(market[0]):
                low, high = tight_price(market, path, good)
                self.assertEqual(price_of(found, path, good), (high, low))
                self.assertEqual(tight_price(found, path, good), (low, high))
        self.assertEqual(tightened(found), found)
        kind, weights = sure_gain(market)
        self.assertTrue(check_fair(found, weights))
        # Its fair weights are those of the market.
        kind, weights = sure_gain(found)
        self.assertEqual(kind, "fair")
        self.assertTrue(check_fair(market, weights))
        return found

    def test_markets(self):
        for market in FAIR_MARKETS + (EXAMPLE, WIDE, MONEY_ALONE, MONEY_TREE):
            self.check(market)

    def test_random_markets(self):
        source = random.Random(21)
        for goods, branches in ((2, (2, 2)), (3, (2, 1)), (4, (3,)), (3, (1, 2)), (2, (1, 1, 2))):
            market = loosened(source, random_market(source, goods, branches, Fraction(1, 9), Fraction(0)))
            if sure_gain(market)[0] == "fair":
                self.check(market)

    def test_a_market_that_is_fair_without_a_spread(self):
        for market in (EVEN, STEPS):
            self.assertEqual(tightened(market), market)

    def test_known_ones(self):
        self.assertEqual(tightened((2, node(5, 2, node(4, 3)))), (2, node(4, 3, node(4, 3))))
        self.assertEqual(tightened((2, node(9, 0, node(5, 4), node(3, 2)))), (2, node(5, 2, node(5, 4), node(3, 2))))
        self.assertEqual(tightened((2, node(2, 2, node(3, 2), node(5, 2)))), (2, node(2, 2, node(2, 2), node(2, 2))))

    def test_contracts_without_looks_at_prices(self):
        source = random.Random(22)
        markets = [(2, node(9, 0, node(5, 4), node(3, 2))), SPREAD,
                   (2, node(4, 2, node(5, 3, node(7, 1)), node(9, 1, node(4, 2))))]
        for _ in range(4):
            market = loosened(source, random_market(source, 2, (2, 2), Fraction(1, 9), Fraction(0)))
            if sure_gain(market)[0] == "fair":
                markets.append(market)
        contracts = [contract for kind in CONTRACTS.values() for contract in kind
                     if "buy" not in str(contract) and "sell" not in str(contract)]
        contracts.append(read_contract("when(less(number(0), number(1)), later(one(1)))"))
        self.assertGreater(len(contracts), 15)
        changed = 0
        for market in markets:
            tight = self.check(market)
            changed += tight != market
            for contract in contracts:
                try:
                    found = interval(market, contract)
                except TooLarge:
                    continue
                self.assertEqual(interval(tight, contract), found, (market, contract))
        self.assertGreater(changed, 2)

    def test_errors_in_their_order(self):
        check_market_errors(self, tightened)
        self.assertRaises(SureGain, tightened, GAIN)

    def test_time(self):
        source = random.Random(23)
        for branches in ((2, 2), (6,), (1, 5), (1, 1, 1, 1, 2), (3, 1)):
            for spread in (Fraction(0), Fraction(1, 30), Fraction(1, 5)):
                market = random_market(source, 3, branches, spread, Fraction(0))
                self.assertEqual(len(moments(market)), 7)
                begin = time.perf_counter()
                tight = tightened(market)
                self.assertLess(time.perf_counter() - begin, 10)
                self.assertEqual(tightened(tight), tight)


if __name__ == "__main__":
    unittest.main()
