"""Points 401, 402 and 403: holdings, sure gains and fair weights."""

import random
import unittest
from fractions import Fraction

from linear import in_lowest_terms, pair
from nolunch.errors import PlanError
from nolunch.gains import holdings, sure_gain
from nolunch.markets import check_market, ends, moments, price_of
from samples import (EXAMPLE, GOOD_MARKETS, LINE, MONEY_ALONE, MONEY_TREE, WIDE, chain,
                     check_market_errors, is_plain, price, star, whole)

NOTHING = ((0, 1), (0, 1))


def held_at_ends(market, start, plan):
    """What is held at each end, worked out by the prices of the market alone."""
    trades = dict(plan)
    found = {}
    for end in ends(market):
        held = [Fraction(*number) for number in start]
        for time in range(len(end) + 1):
            for good, amount in enumerate(trades.get(end[:time], ()), 1):
                buy, sell = (Fraction(*side) for side in price_of(market, end[:time], good))
                units = Fraction(*amount)
                held[0] -= units * (buy if units > 0 else sell)
                held[good] += units
        found[end] = held
    return found


def random_market(source, goods, branches, spread, drift):
    """A market whose prices go up and down by turns, with a common drift for some next moments."""
    def node(prices, rest):
        pairs = tuple((pair(p * (1 + spread)), pair(p * (1 - spread))) for p in prices)
        if not rest:
            return (pairs, ())
        shares = [[Fraction(source.randint(1, 5)) for _ in range(rest[0])] for _ in prices]
        nodes = []
        for k in range(rest[0]):
            moves = [share[k] * rest[0] / sum(share) + drift for share in shares]
            nodes.append(node([p * move for p, move in zip(prices, moves)], rest[1:]))
        return (pairs, tuple(nodes))
    return (goods, node([Fraction(source.randint(1, 9), 2) for _ in range(goods - 1)], branches))


class Holdings(unittest.TestCase):
    def test_nothing_done(self):
        for market in GOOD_MARKETS:
            start = tuple((k + 1, 3) if k != 2 else (1, 1) for k in range(market[0]))
            for held in (start, tuple((-number[0], number[1]) for number in start)):
                self.assertEqual(holdings(market, held, ()),
                                 tuple((end, held) for end in ends(market)))

    def test_buying_and_selling(self):
        self.assertEqual(holdings(EXAMPLE, ((5, 1), (0, 1)), (((), ((1, 1),)), ((0,), ((-1, 1),)))),
                         (((0,), ((5, 1), (0, 1))), ((1,), ((3, 1), (1, 1)))))
        self.assertEqual(holdings(EXAMPLE, NOTHING, (((), ((-3, 2),)), ((1,), ((3, 2),)))),
                         (((0,), ((3, 2), (-3, 2))), ((1,), ((0, 1), (0, 1)))))

    def test_several_goods_at_one_end(self):
        plan = (((), ((1, 2), (-3, 1))), ((0,), ((-2, 1), (4, 1))), ((0, 0), ((3, 2), (0, 1))))
        # 10 - 5/2 + 6, then + 6 - 2, then - 6.
        self.assertEqual(holdings(LINE, (whole(10), whole(1), (1, 2)), plan),
                         (((0, 0), ((23, 2), (1, 1), (3, 2))),))

    def test_moments_without_trades_and_amounts_of_0(self):
        start = (whole(1), whole(2), whole(3), whole(4))
        zeros = ((0, 1), (0, 1), (0, 1))
        still = tuple((path, zeros) for path in moments(WIDE))
        self.assertEqual(holdings(WIDE, start, still), holdings(WIDE, start, ()))
        plan = (((0,), ((0, 1), (-1, 1), (0, 1))), ((1, 1), ((1, 1), (0, 1), (0, 1))))
        self.assertEqual(holdings(WIDE, start, plan), (
            ((0, 0), (whole(4), whole(2), whole(2), whole(4))),
            ((0, 1), (whole(4), whole(2), whole(2), whole(4))),
            ((1, 0), start),
            ((1, 1), (whole(-1), whole(3), whole(3), whole(4)))))

    def test_trades_at_an_end_are_done_there_alone(self):
        self.assertEqual(holdings(EXAMPLE, NOTHING, (((1,), ((-4, 1),)),)),
                         (((0,), NOTHING), ((1,), ((4, 1), (-4, 1)))))

    def test_markets_of_one_good_and_one_moment(self):
        self.assertEqual(holdings(MONEY_ALONE, ((-7, 3),), ()), (((), ((-7, 3),)),))
        self.assertEqual(holdings(MONEY_ALONE, ((-7, 3),), (((), ()),)), (((), ((-7, 3),)),))
        plan = tuple((path, ()) for path in moments(MONEY_TREE))
        self.assertEqual(holdings(MONEY_TREE, ((1, 2),), plan),
                         tuple((end, ((1, 2),)) for end in ends(MONEY_TREE)))
        alone = (2, ((price(3, 2),), ()))
        self.assertEqual(holdings(alone, NOTHING, (((), ((2, 1),)),)), (((), ((-6, 1), (2, 1))),))
        self.assertEqual(holdings(alone, NOTHING, (((), ((-2, 1),)),)), (((), ((4, 1), (-2, 1))),))

    def test_against_own_reckoning(self):
        source = random.Random(3)
        for market in GOOD_MARKETS:
            for _ in range(20):
                plan = tuple((path, tuple(pair(Fraction(source.randint(-4, 4), source.randint(1, 3)))
                                          for _ in range(market[0] - 1)))
                             for path in moments(market) if source.random() < 0.7)
                start = tuple(pair(Fraction(source.randint(-9, 9), 4)) for _ in range(market[0]))
                found = holdings(market, start, plan)
                self.assertTrue(is_plain(found))
                self.assertEqual(found, tuple((end, tuple(pair(x) for x in held)) for end, held
                                              in held_at_ends(market, start, plan).items()))

    def check_plan_error(self, market, start, plan):
        with self.subTest(start=start, plan=plan):
            self.assertRaises(PlanError, holdings, market, start, plan)

    def test_paths_that_are_no_moments(self):
        for path in ((2,), (-1,), (0, 0), (1, 0), (0, -1), (5,)):
            self.check_plan_error(EXAMPLE, NOTHING, ((path, ((0, 1),)),))
        self.check_plan_error(EXAMPLE, NOTHING, (((), ((0, 1),)), ((2,), ((0, 1),))))
        self.check_plan_error(MONEY_ALONE, ((0, 1),), (((0,), ()),))

    def test_paths_that_do_not_strictly_ascend(self):
        one = ((1, 1),)
        for paths in (((), ()), ((0,), ()), ((1,), (0,)), ((0,), (0,)), ((), (1,), (0,)),
                      ((), (0,), (0,)), ((0,), (1,), ())):
            self.check_plan_error(EXAMPLE, NOTHING, tuple((path, one) for path in paths))

    def test_numbers_of_amounts(self):
        for amounts in ((), ((1, 1), (1, 1)), ((0, 1), (0, 1))):
            self.check_plan_error(EXAMPLE, NOTHING, (((), amounts),))
            self.check_plan_error(EXAMPLE, NOTHING, (((), ((1, 1),)), ((0,), amounts)))
        self.check_plan_error(MONEY_ALONE, ((0, 1),), (((), ((0, 1),)),))
        self.check_plan_error(LINE, ((0, 1),) * 3, (((0,), ((1, 1),)),))
        self.check_plan_error(LINE, ((0, 1),) * 3, (((0,), ((1, 1),) * 3),))

    def test_numbers_at_the_start(self):
        for start in ((), ((1, 1),), ((1, 1),) * 3):
            self.check_plan_error(EXAMPLE, start, ())
        self.check_plan_error(MONEY_ALONE, (), ())
        self.check_plan_error(MONEY_ALONE, NOTHING, ())

    def test_errors_of_the_market_come_first(self):
        check_market_errors(self, lambda market: holdings(market, (), (((9,), ()), ((9,), ()))))
        check_market_errors(self, lambda market: holdings(market, ((0, 1),) * market[0], ()))


class SureGain(unittest.TestCase):
    def check_gain(self, market):
        """A sure gain is told; the plan is done through the prices of the market, and wins."""
        kind, plan = sure_gain(market)
        self.assertEqual(kind, "gain")
        self.assertTrue(is_plain(plan))
        paths = [path for path, _ in plan]
        self.assertEqual(paths, sorted(set(paths)))
        self.assertLessEqual(set(paths), set(moments(market)))
        for _, amounts in plan:
            self.assertEqual(len(amounts), market[0] - 1)
            self.assertTrue(all(in_lowest_terms(amount) for amount in amounts))
        held = held_at_ends(market, ((0, 1),) * market[0], plan)
        self.assertTrue(all(number >= 0 for row in held.values() for number in row))
        self.assertTrue(any(row[0] > 0 for row in held.values()))
        self.assertEqual(holdings(market, ((0, 1),) * market[0], plan),
                         tuple((end, tuple(pair(x) for x in held[end])) for end in ends(market)))

    def check_fair(self, market):
        """Fair weights are told, and each sentence of point 402 holds for them."""
        kind, weights = sure_gain(market)
        self.assertEqual(kind, "fair")
        self.assertTrue(is_plain(weights))
        self.assertEqual(tuple(end for end, _ in weights), ends(market))
        for _, row in weights:
            self.assertEqual(len(row), market[0])
            self.assertTrue(all(in_lowest_terms(number) for number in row))
        rows = {end: [Fraction(*number) for number in row] for end, row in weights}
        self.assertTrue(all(number >= 0 for row in rows.values() for number in row))
        self.assertTrue(all(row[0] > 0 for row in rows.values()))
        self.assertEqual(sum(row[0] for row in rows.values()), 1)
        for path in moments(market):
            behind = [row for end, row in rows.items() if end[:len(path)] == path]
            money = sum(row[0] for row in behind)
            for good in range(1, market[0]):
                buy, sell = (Fraction(*side) for side in price_of(market, path, good))
                weight = sum(row[good] for row in behind)
                self.assertTrue(sell * money <= weight <= buy * money)

    def test_with_spreads(self):
        self.check_fair(EXAMPLE)
        self.check_fair(WIDE)
        self.check_fair((2, ((price(3, 2),), (((price(4, 2),), ()), ((price(9, 4),), ())))))
        self.check_gain((2, ((price(3, 2),), (((price(4, 3),), ()), ((price(9, 4),), ())))))
        self.check_gain((2, ((price(3, 2),), (((price(9, 4),), ()), ((price(5, 4),), ())))))
        self.check_gain((2, ((price(5, 4),), (((price(3, 1),), ()), ((price(2, 1),), ())))))

    def test_without_spreads(self):
        def market(*prices):
            return (2, ((price(2, 2),), tuple(((price(p, p),), ()) for p in prices)))
        self.check_fair(market(1, 3))
        self.check_fair(market(2))
        self.check_fair(market(2, 2, 2))
        self.check_fair(market(0, 9))
        self.check_gain(market(3))
        self.check_gain(market(1))
        self.check_gain(market(3, 4, 5))
        # Nothing can be lost, and at one moment something is won.
        self.check_gain(market(2, 3))
        self.check_gain(market(2, 1, 2))

    def test_a_gain_that_only_just_is_none(self):
        def market(first, second):
            return (2, ((price(3, 2),), (((price(first, first),), ()), ((price(second, second),), ()))))
        self.check_fair(market(3, 3))
        self.check_fair(market(2, 2))
        self.check_fair(market(3, 2))
        self.check_gain(market(3, 4))
        self.check_gain(market(2, 1))

    def test_gains_of_several_goods(self):
        # Two goods together: one of each costs 4 now, and brings 5 in any case.
        first = (price(2, 2), price(2, 2))
        self.check_gain((3, (first, (((price(1, 1), price(4, 4)), ()),
                                     ((price(4, 4), price(1, 1)), ())))))
        self.check_fair((3, (first, (((price(1, 1), price(3, 3)), ()),
                                     ((price(3, 3), price(1, 1)), ())))))
        self.check_gain(LINE)

    def test_a_gain_behind_one_of_several_moments(self):
        def later(low):
            return ((price(2, 2),), (((price(low, low),), ()), ((price(5, 5),), ())))
        self.check_gain((2, ((price(2, 2),), (later(1), later(2)))))
        self.check_fair((2, ((price(2, 2),), (later(1), later(0)))))

    def test_prices_of_0(self):
        self.check_fair((2, ((price(0, 0),), ())))
        self.check_fair((2, ((price(0, 0),), (((price(0, 0),), ()), ((price(1, 0),), ())))))
        self.check_gain((2, ((price(0, 0),), (((price(0, 0),), ()), ((price(1, 1),), ())))))
        self.check_fair((2, ((price(1, 0),), (((price(0, 0),), ()), ((price(0, 0),), ())))))
        self.check_gain((2, ((price(1, 1),), (((price(0, 0),), ()), ((price(0, 0),), ())))))

    def test_one_good(self):
        self.check_fair(MONEY_ALONE)
        self.assertEqual(sure_gain(MONEY_ALONE), ("fair", (((), ((1, 1),)),)))
        for market in (MONEY_TREE, (1, star(39)), (1, chain(5))):
            self.check_fair(market)

    def test_one_moment(self):
        self.check_fair((2, ((price(3, 2),), ())))
        self.check_fair((2, ((price(3, 3),), ())))
        self.check_fair((4, ((price(3, 3), price(1, 0), ((2, 3), (1, 2))), ())))

    def test_random_markets(self):
        source = random.Random(6)
        for branches in ((), (2,), (3, 2), (2, 2, 2), (1, 1, 4), (9,)):
            for goods in (2, 3, 4):
                for spread in (Fraction(0), Fraction(1, 20)):
                    market = random_market(source, goods, branches, spread, Fraction(0))
                    self.assertIsNone(check_market(market))
                    self.check_fair(market)
                    if branches:
                        # All prices rise at each next moment, by far more than the spread.
                        self.check_gain(random_market(source, goods, branches, spread, Fraction(20)))

    def test_markets_at_the_limits(self):
        source = random.Random(9)
        for branches in ((3, 3, 3), (39,), (1, 1, 1, 1, 35), (2, 2, 2, 2), (3, 12)):
            market = random_market(source, 4, branches, Fraction(1, 100), Fraction(0))
            self.assertIsNone(check_market(market))
            self.check_fair(market)

    def test_errors_of_the_market_come_first(self):
        check_market_errors(self, sure_gain)


if __name__ == "__main__":
    unittest.main()
