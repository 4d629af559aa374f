"""Part 12: which contract covers which."""

import random
import time
import unittest
from fractions import Fraction

from linear import pair
from nolunch.contracts import check_contract, depth_of, size_of
from nolunch.covering import best_cover, covers, worth_beside
from nolunch.errors import ContractError, SureGain, TooLarge
from nolunch.hedging import cost, worth_of_ways
from nolunch.markets import moments
from nolunch.texts import read_contract
from playing import ALL_CONTRACTS, EVEN, FAIR_MARKETS, SPREAD, STEPS, either, scaled
from samples import EXAMPLE, MONEY_ALONE, MONEY_TREE, WIDE, check_market_errors, is_plain, star
from test_contracts import NOTHING, nested, row_of
from test_gains import random_market
from test_hedging import GAIN
from test_histories import ors

SMALL = Fraction(1, 1000)
MONEY = ("one", 0)
GOOD = ("one", 1)
PUT = read_contract("at(1, scale(greatest(minus(number(2), buy(1)), number(0)), one(0)))")
CALL = read_contract("at(1, scale(greatest(minus(buy(1), number(2)), number(0)), one(0)))")


def beside(c, d):
    return ("both", d, ("give", c))


def with_money(contract, money):
    return ("both", contract, scaled(money, MONEY))


class Worth(unittest.TestCase):
    def check(self, market, c, d, worth):
        with self.subTest(c=c, d=d):
            found = worth_beside(market, c, d)
            self.assertTrue(is_plain(found))
            self.assertEqual(found, pair(worth))
            self.assertIs(covers(market, c, d), worth >= 0)

    def test_known_ones(self):
        for market in FAIR_MARKETS + (EXAMPLE, MONEY_ALONE, MONEY_TREE, WIDE):
            self.check(market, NOTHING, NOTHING, 0)
            self.check(market, MONEY, MONEY, 0)
            self.check(market, scaled(3, MONEY), MONEY, 2)
            self.check(market, MONEY, scaled(3, MONEY), -2)
            for good in range(market[0]):
                self.check(market, ("one", good), ("one", good), 0)
                # What is to be given later, behind the only moment, is never given.
                later = 1 if market == MONEY_ALONE else 0
                self.check(market, ("one", good), ("later", ("one", good)), later)
        self.check(SPREAD, GOOD, MONEY, 0)
        self.check(SPREAD, MONEY, GOOD, -1)
        self.check(SPREAD, scaled(2, MONEY), GOOD, 0)
        self.check(SPREAD, scaled(2, GOOD), scaled(2, MONEY), 0)
        self.check(EVEN, CALL, PUT, 0)
        self.check(EVEN, ("both", CALL, scaled(2, MONEY)), ("both", PUT, GOOD), 0)
        self.check(EVEN, ("both", CALL, scaled(3, MONEY)), ("both", PUT, GOOD), 1)
        # Who holds what may be chosen can choose as it is needed.
        self.check(SPREAD, ("or", MONEY, GOOD), MONEY, 0)
        self.check(SPREAD, ("or", MONEY, GOOD), GOOD, 0)
        self.check(SPREAD, ("or", MONEY, GOOD), ("or", MONEY, GOOD), 0)
        self.check(SPREAD, GOOD, ("or", MONEY, GOOD), 0)
        self.check(SPREAD, MONEY, ("or", MONEY, GOOD), -1)
        self.check(SPREAD, either(MONEY, GOOD), MONEY, 0)
        self.check(SPREAD, either(MONEY, GOOD), GOOD, -1)

    def test_against_cost(self):
        told = 0
        for market in FAIR_MARKETS:
            source = random.Random(30)
            for c in ALL_CONTRACTS:
                for d in source.sample(ALL_CONTRACTS, 2):
                    try:
                        money = Fraction(*cost(market, beside(c, d))[0])
                    except TooLarge:
                        self.assertRaises(TooLarge, worth_beside, market, c, d)
                        self.assertRaises(TooLarge, covers, market, c, d)
                        continue
                    self.check(market, c, d, -money)
                    told += 1
        self.assertGreater(told, 120)

    def test_each_covers_itself_where_the_holder_alone_chooses(self):
        for market in FAIR_MARKETS:
            for contract in ALL_CONTRACTS:
                if "give" in str(contract):
                    continue
                try:
                    self.assertIs(covers(market, contract, contract), True)
                except TooLarge:
                    self.assertRaises(TooLarge, cost, market, beside(contract, contract))

    def test_money_put_to_a_contract(self):
        """Just enough, a little more and a little less, to either one."""
        pairs = ((GOOD, CALL), (MONEY, GOOD), (CALL, PUT), (("or", MONEY, GOOD), scaled(3, GOOD)),
                 (("early", 1, GOOD), ("or", GOOD, CALL)), (either(MONEY, GOOD), GOOD),
                 (("early", 1, MONEY), either(CALL, ("at", 1, MONEY))))
        for market in (EVEN, SPREAD, STEPS):
            for c, d in pairs:
                worth = Fraction(*worth_beside(market, c, d))
                for more in (0, SMALL, 1):
                    self.assertIs(covers(market, with_money(c, more - worth), d), True)
                    self.assertIs(covers(market, c, with_money(d, worth - more)), True)
                    self.check(market, with_money(c, more), d, worth + more)
                self.assertIs(covers(market, with_money(c, -SMALL - worth), d), False)
                self.assertIs(covers(market, c, with_money(d, worth + SMALL)), False)

    def test_pairs_beyond_the_limits_of_contracts(self):
        wide = ("both", row_of(16), row_of(4))
        self.assertEqual(size_of(wide), 39)
        deep = nested("later", 19)
        self.assertEqual(depth_of(deep), 20)
        for c, d in ((wide, wide), (deep, deep), (wide, deep), (deep, wide), (deep, NOTHING), (NOTHING, deep),
                     (row_of(20), GOOD), (GOOD, ("give", row_of(20)))):
            check_contract(2, c)
            check_contract(2, d)
            self.assertRaises(ContractError, cost, SPREAD, beside(c, d))
            worth = {GOOD: 1}.get(c, 0) - {GOOD: 2}.get(d, 0)
            self.check(SPREAD, c, d, worth)


class BestCover(unittest.TestCase):
    def test_none_one_and_several(self):
        for contracts, d, index in (
                ((), NOTHING, None), ((), GOOD, None), ((MONEY,), GOOD, None), ((GOOD,), GOOD, 0),
                ((MONEY, NOTHING, ("give", GOOD)), GOOD, None), ((MONEY, GOOD), GOOD, 1),
                ((MONEY, scaled(2, MONEY), GOOD), GOOD, 1), ((GOOD, GOOD), GOOD, 0),
                ((NOTHING, MONEY, NOTHING, scaled(3, GOOD), scaled(9, MONEY)), GOOD, 3)):
            found = best_cover(SPREAD, contracts, d)
            self.assertEqual(found, index)
            self.assertIs(type(found), type(index))

    def test_against_covers(self):
        source = random.Random(31)
        for market in FAIR_MARKETS:
            for _ in range(8):
                contracts = tuple(source.sample(ALL_CONTRACTS[:20], 5))
                d = source.choice(ALL_CONTRACTS[:20])
                try:
                    told = [covers(market, c, d) for c in contracts]
                except TooLarge:
                    continue
                self.assertEqual(best_cover(market, contracts, d), told.index(True) if True in told else None)

    def test_an_error_behind_the_first_one_that_covers(self):
        large = ("give", ("both", ors(9), ("both", ors(2), ors(4))))
        self.assertRaises(TooLarge, covers, SPREAD, large, GOOD)
        self.assertEqual(best_cover(SPREAD, (MONEY, GOOD, large), GOOD), 1)
        self.assertRaises(TooLarge, best_cover, SPREAD, (MONEY, large, GOOD), GOOD)
        self.assertRaises(TooLarge, best_cover, SPREAD, (large, GOOD), GOOD)
        # All contracts are checked, also behind it.
        self.assertRaises(ContractError, best_cover, SPREAD, (GOOD, ("one", 2)), GOOD)
        self.assertRaises(ContractError, best_cover, SPREAD, (large, ("one", 2)), GOOD)


class Errors(unittest.TestCase):
    def calls(self, market, c, d):
        return (lambda: covers(market, c, d), lambda: worth_beside(market, c, d),
                lambda: best_cover(market, (c,), d), lambda: best_cover(market, (c, NOTHING), d))

    def test_errors_of_the_market_come_first(self):
        for c, d in ((("one", 9), NOTHING), (NOTHING, ("one", 9))):
            for k in range(4):
                check_market_errors(self, lambda market: self.calls(market, c, d)[k]())
        check_market_errors(self, lambda market: best_cover(market, (), ("one", 9)))

    def test_errors_of_the_contracts_come_next(self):
        bad = (("one", 4), ("at", -1, NOTHING), nested("later", 20), ("give", ("both", ors(20), NOTHING)))
        large = ("or", ("both", ors(9), ors(2)), ors(2))
        for market in (EXAMPLE, WIDE, GAIN):
            for one in bad:
                for other in (NOTHING, large):
                    for call in self.calls(market, one, other) + self.calls(market, other, one):
                        self.assertRaises(ContractError, call)
                self.assertRaises(ContractError, best_cover, market, (), one)
                self.assertRaises(ContractError, best_cover, market, (NOTHING, NOTHING, one), NOTHING)

    def test_then_too_large_and_a_sure_gain(self):
        many = (1, star(39))
        for call in self.calls(many, NOTHING, ors(6)) + self.calls(many, ors(6), NOTHING):
            self.assertRaises(TooLarge, call)
        self.assertEqual(worth_beside(many, NOTHING, ors(5)), (0, 1))
        # Ways of who gives d and gets c: the choices in c are free.
        ways = ("at", 1, ors(2))
        fair = (1, star(6))
        for call in self.calls(fair, ("or", ways, NOTHING), NOTHING):
            self.assertRaises(TooLarge, call)
        for call in self.calls(fair, NOTHING, ("give", ("or", ways, NOTHING))):
            self.assertRaises(TooLarge, call)
        self.assertIs(covers(fair, ways, NOTHING), True)
        self.assertIs(covers(fair, NOTHING, ("or", ways, NOTHING)), True)
        for call in self.calls(GAIN, ("or", ways, NOTHING), NOTHING):
            self.assertRaises(TooLarge, call)
        for call in self.calls(GAIN, ways, NOTHING) + self.calls(GAIN, NOTHING, NOTHING):
            self.assertRaises(SureGain, call)
        # With no contract, no call of covers raises its errors.
        self.assertIsNone(best_cover(GAIN, (), NOTHING))


class Times(unittest.TestCase):
    def test_large_pairs(self):
        source = random.Random(32)
        c = read_contract("or(or(one(1), one(2)), or(early(1, one(1)), later(or(one(1), one(2)))))")
        d = read_contract("or(scale(buy(1), one(2)), or(one(1), later(or(one(2), one(1)))))")
        told = 0
        for branches in ((6,), (2, 2), (1, 5), (1, 1, 1, 1, 2)):
            for spread in (Fraction(0), Fraction(1, 30)):
                market = random_market(source, 3, branches, spread, Fraction(0))
                self.assertEqual(len(moments(market)), 7)
                for one, other in ((c, d), (d, c), (NOTHING, c), (c, NOTHING), (d, NOTHING)):
                    begin = time.perf_counter()
                    try:
                        worth = worth_beside(market, one, other)
                        told += 1
                    except TooLarge:
                        continue
                    finally:
                        self.assertLess(time.perf_counter() - begin, 10)
                    self.assertIs(covers(market, one, other), worth[0] >= 0)
                    if one == NOTHING:
                        money = min(Fraction(*money) for _, money in worth_of_ways(market, other, "giver"))
                        self.assertEqual(Fraction(*worth), -money)
        self.assertGreater(told, 12)


if __name__ == "__main__":
    unittest.main()
