"""Part 13: dues."""

import random
import unittest
from fractions import Fraction

from linear import numbers, pair
from nolunch.dues import dues, least_paid, most_paid, pays_nothing
from nolunch.errors import ContractError, MomentError, TooLarge
from nolunch.histories import whole_histories
from nolunch.markets import moments
from nolunch.texts import read_contract
from playing import ALL_CONTRACTS, EVEN, FAIR_MARKETS, SPREAD, STEPS, Played, either, hold_fractions, scaled
from samples import EXAMPLE, LINE, MONEY_ALONE, MONEY_TREE, WIDE, check_market_errors, is_plain, star
from test_contracts import NOTHING, nested
from test_gains import random_market
from test_hedging import GAIN, random_contract
from test_histories import ors

ENDING = tuple(read_contract(text) for text in (
    "until(less(number(2), buy(1)), both(one(0), at(1, or(one(1), one(0)))))",
    "until(same(buy(1), sell(1)), early(2, one(1)))",
    "both(one(1), until(less(buy(1), number(9)), or(one(0), one(1))))",
    "give(until(less(number(4), buy(1)), later(early(2, both(one(1), one(0))))))",
    "both(early(2, give(or(one(0), one(1)))), at(1, give(scale(buy(1), or(one(1), one(0))))))"))
CANCELLED = tuple(read_contract(text) for text in (
    "both(one(1), give(one(1)))", "both(one(0), later(give(one(0))))",
    "or(both(one(1), give(later(one(1)))), both(one(0), at(1, give(one(0)))))"))


def hold_dues(test, market, contract):
    """Hold all that part 13 tells of a contract against sums over all its histories."""
    played = Played(market, contract)
    found = dues(market, contract)
    test.assertTrue(is_plain(found))
    test.assertEqual(tuple(path for path, _, _ in found), moments(market))
    nothing = True
    for path, least, greatest in found:
        rows = [numbers(played.told(h)[1]) for h in played.settled if played.path(h) == path]
        hold_fractions(test, least + greatest)
        test.assertEqual(numbers(least), [min(column) for column in zip(*rows)])
        test.assertEqual(numbers(greatest), [max(column) for column in zip(*rows)])
        nothing = nothing and not any(any(row) for row in rows)
    test.assertIs(pays_nothing(market, contract), nothing)
    for good in range(market[0]):
        sums = [played.paid[h][good] for h in played.whole]
        test.assertEqual(least_paid(market, contract, good), pair(min(sums)))
        test.assertEqual(most_paid(market, contract, good), pair(max(sums)))


class Dues(unittest.TestCase):
    def test_every_kind_of_contract(self):
        for market in FAIR_MARKETS + (EXAMPLE, GAIN):
            for contract in ALL_CONTRACTS + ENDING + CANCELLED:
                with self.subTest(contract=contract):
                    if len(Played(market, contract).all) > 400:
                        self.assertRaises(TooLarge, dues, market, contract)
                    else:
                        hold_dues(self, market, contract)

    def test_random_contracts(self):
        source = random.Random(40)
        for seed in range(60):
            goods = source.choice((2, 3, 4))
            market = random_market(source, goods, source.choice(((2,), (3,), (2, 2), (1, 2))),
                                   Fraction(seed % 2, 8), Fraction(0))
            contract = random_contract(source, goods, 4)
            with self.subTest(contract=contract):
                try:
                    whole_histories(market, contract)
                except (TooLarge, ContractError) as error:
                    self.assertRaises(type(error), dues, market, contract)
                    continue
                hold_dues(self, market, contract)

    def test_known_ones(self):
        self.assertEqual(dues(EVEN, NOTHING), (((), ((0, 1), (0, 1)), ((0, 1), (0, 1))),
                                               ((0,), ((0, 1), (0, 1)), ((0, 1), (0, 1))),
                                               ((1,), ((0, 1), (0, 1)), ((0, 1), (0, 1)))))
        contract = read_contract("or(one(1), at(1, give(scale(buy(1), one(0)))))")
        self.assertEqual(dues(SPREAD, contract), (((), ((0, 1), (0, 1)), ((0, 1), (1, 1))),
                                                  ((0,), ((-3, 1), (0, 1)), ((0, 1), (0, 1))),
                                                  ((1,), ((-1, 1), (0, 1)), ((0, 1), (0, 1)))))
        self.assertEqual((least_paid(SPREAD, contract, 0), most_paid(SPREAD, contract, 0)), ((-3, 1), (0, 1)))
        self.assertEqual((least_paid(SPREAD, contract, 1), most_paid(SPREAD, contract, 1)), ((0, 1), (1, 1)))
        # Amounts of 10 are more than those of 9, also as fractions.
        contract = ("or", scaled(9, ("one", 0)), ("or", scaled(10, ("one", 0)), scaled(Fraction(19, 2), ("one", 0))))
        self.assertEqual((least_paid(SPREAD, contract, 0), most_paid(SPREAD, contract, 0)), ((9, 1), (10, 1)))
        self.assertEqual(dues(MONEY_ALONE, contract), (((), ((9, 1),), ((10, 1),)),))

    def test_contracts_that_pay_nothing(self):
        for market in FAIR_MARKETS + (EXAMPLE, LINE, WIDE):
            for contract in (NOTHING, ("give", NOTHING), ("or", NOTHING, ("later", NOTHING)), ("at", 7, ("one", 1)),
                             ("until", ("less", ("number", (0, 1)), ("number", (1, 1))), ("one", 1)),
                             scaled(0, ("or", ("one", 0), ("one", 1))), ("both", ("one", 1), ("give", ("one", 1))),
                             ("early", 3, either(NOTHING, scaled(0, ("one", 1))))):
                if len(Played(market, contract).all) <= 400:
                    self.assertIs(pays_nothing(market, contract), True)
                    hold_dues(self, market, contract)

    def test_dues_that_cancel_each_other_on_a_whole_history(self):
        contract = CANCELLED[1]
        for market in (EVEN, SPREAD, STEPS, MONEY_TREE):
            self.assertIs(pays_nothing(market, contract), False)
            self.assertEqual((least_paid(market, contract, 0), most_paid(market, contract, 0)), ((0, 1), (0, 1)))
            told = {path: (least[0], greatest[0]) for path, least, greatest in dues(market, contract)}
            self.assertEqual((told[()], told[(0,)]), (((1, 1), (1, 1)), ((-1, 1), (-1, 1))))
        # At one moment alone, what is taken back later never is.
        self.assertEqual(most_paid(MONEY_ALONE, contract, 0), (1, 1))

    def test_a_single_payment_is_enough(self):
        for contract in (("at", 2, ("or", NOTHING, ("one", 1))), ("early", 2, ("one", 1)),
                         either(NOTHING, ("at", 2, ("give", ("one", 1))))):
            self.assertIs(pays_nothing(STEPS, contract), False)
            hold_dues(self, STEPS, contract)


class Errors(unittest.TestCase):
    CALLS = (dues, pays_nothing, lambda m, c: most_paid(m, c, 9), lambda m, c: least_paid(m, c, 9))

    def test_errors_of_the_market_come_first(self):
        for call in self.CALLS:
            check_market_errors(self, lambda market: call(market, ("one", 9)))

    def test_errors_of_the_contract_come_next(self):
        for call in self.CALLS:
            for market in (EXAMPLE, LINE):
                for contract in (("one", 3), ("at", -1, NOTHING), nested("later", 20),
                                 ("both", ("one", -1), ("both", ors(8), ors(9)))):
                    self.assertRaises(ContractError, call, market, contract)

    def test_too_many_histories_ahead_of_goods_that_are_none(self):
        many = (1, star(39))
        for call in self.CALLS:
            self.assertRaises(TooLarge, call, many, ors(10))
        # 17 asks and pays at first, 39 pays behind each of 9 pays.
        self.assertEqual(len(dues(many, ors(9))), 40)
        self.assertIs(pays_nothing(many, ors(9)), True)
        for market in (EXAMPLE, MONEY_ALONE, WIDE, GAIN):
            for good in (-1, market[0], 9):
                self.assertRaises(MomentError, most_paid, market, NOTHING, good)
                self.assertRaises(MomentError, least_paid, market, NOTHING, good)
            for good in range(market[0]):
                self.assertEqual(most_paid(market, ("one", good), good), (1, 1))


if __name__ == "__main__":
    unittest.main()
