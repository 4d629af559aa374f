"""Part 15: advice."""

import random
import time
import unittest
from fractions import Fraction

from dealing import needed
from linear import numbers, pair
from nolunch.advising import advice, best_options
from nolunch.errors import ContractError, HistoryError, PlanError, SureGain, TooLarge, WayError
from nolunch.hedging import cost, interval, worth_of_ways
from nolunch.markets import moments
from nolunch.texts import read_contract
from playing import (ALL_CONTRACTS, CONTRACTS, EVEN, FAIR_MARKETS, SPREAD, STEPS, THREE, Played, either,
                     hold_fractions, scaled)
from samples import EXAMPLE, MONEY_ALONE, WIDE, check_market_errors, is_plain, price, star
from test_contracts import NOTHING, nested
from test_gains import random_market
from test_hedging import GAIN, random_contract
from test_histories import ors

SIDES = ("giver", "holder")
OTHER = {"giver": "holder", "holder": "giver"}


def nothing(market, money=0):
    return (pair(money),) + ((0, 1),) * (market[0] - 1)


def expected(played, side, history, held):
    """What is left of the money, by the cost of what is left behind each option."""
    told = played.told(history)
    units = [Fraction(*number) for number in held[1:]]
    found = []
    for option in (0, 1):
        left = told[2 + option] if side == "giver" else ("give", told[2 + option])
        found.append(Fraction(*held[0]) - needed(played.market, played.path(history), left, units))
    return found


class Advice(unittest.TestCase):
    def hold(self, played, contract, side, history, held):
        """Hold advice against costs; None if there is too much behind the history."""
        market = played.market
        found = advice(market, contract, side, history, held)
        self.assertTrue(is_plain(found))
        self.assertEqual(len(found), 2)
        hold_fractions(self, found)
        self.assertEqual(numbers(found), expected(played, side, history, held))
        first, second = numbers(found)
        best = (0, 1) if first == second else ((0,) if first > second else (1,))
        self.assertEqual(best_options(market, contract, side, history, held), best)
        more = (pair(Fraction(*held[0]) + Fraction(7, 5)),) + held[1:]
        self.assertEqual(numbers(advice(market, contract, side, history, more)),
                         [first + Fraction(7, 5), second + Fraction(7, 5)])
        return best

    def test_each_history_of_every_kind_of_contract(self):
        source = random.Random(60)
        seen = set()
        for market in FAIR_MARKETS:
            for contract in ALL_CONTRACTS:
                played = Played(market, contract)
                asking = [(h, played.told(h)[1]) for h in played.all if played.told(h)[0] == "ask"]
                for history, side in source.sample(asking, min(3, len(asking))):
                    held = source.choice((nothing(market), nothing(market, 5), holding(source, market[0])))
                    try:
                        best = self.hold(played, contract, side, history, held)
                    except TooLarge:
                        continue
                    seen.add((side, best))
        self.assertEqual(len(seen), 6)

    def test_all_histories_of_some_contracts(self):
        source = random.Random(61)
        for market, text in (
                (STEPS, "early(2, scale(greatest(minus(number(4), buy(1)), number(0)), one(0)))"),
                (STEPS, "give(early(2, scale(greatest(minus(number(4), buy(1)), number(0)), one(0))))"),
                (SPREAD, "or(give(or(give(one(0)), give(one(1)))), at(1, or(one(0), one(1))))"),
                (SPREAD, "both(early(1, one(1)), give(early(1, one(1))))"),
                (EVEN, "at(1, both(or(one(1), one(0)), give(or(one(1), one(0)))))"),
                (THREE, "both(or(one(1), one(2)), at(1, give(or(give(one(2)), one(0)))))")):
            contract = read_contract(text)
            played = Played(market, contract)
            for history in played.all:
                for side in SIDES:
                    held = holding(source, market[0])
                    if played.asked(history, side):
                        self.hold(played, contract, side, history, held)
                    else:
                        self.assertRaises(HistoryError, advice, market, contract, side, history, held)

    def test_random_contracts(self):
        source = random.Random(62)
        told = 0
        while told < 60:
            goods = source.choice((2, 3))
            market = random_market(source, goods, source.choice(((2,), (2, 2), (1, 2))), Fraction(told % 3, 12),
                                   Fraction(0))
            contract = random_contract(source, goods, 4)
            try:
                played = Played(market, contract)
                asking = [h for h in played.all if played.told(h)[0] == "ask"]
                if not asking:
                    continue
                history = source.choice(asking)
                self.hold(played, contract, played.told(history)[1], history, holding(source, goods))
                told += 1
            except (TooLarge, ContractError):
                continue

    def test_known_ones(self):
        contract = ("or", ("one", 1), scaled(Fraction(3, 2), ("one", 0)))
        self.assertEqual(advice(SPREAD, contract, "holder", (), nothing(SPREAD)), ((1, 1), (3, 2)))
        self.assertEqual(best_options(SPREAD, contract, "holder", (), nothing(SPREAD)), (1,))
        opposite = ("give", contract)
        self.assertEqual(advice(SPREAD, opposite, "giver", (), nothing(SPREAD, 1)), ((2, 1), (5, 2)))
        own = either(("one", 1), scaled(Fraction(3, 2), ("one", 0)))
        self.assertEqual(advice(SPREAD, own, "giver", (), nothing(SPREAD)), ((-2, 1), (-3, 2)))
        # Who holds the good need not buy it.
        self.assertEqual(advice(SPREAD, own, "giver", (), ((0, 1), (1, 1))), ((0, 1), (-1, 2)))
        self.assertEqual(best_options(SPREAD, own, "giver", (), ((0, 1), (1, 1))), (0,))
        self.assertEqual(best_options(SPREAD, own, "giver", (), nothing(SPREAD)), (1,))
        same = either(("one", 1), scaled(2, ("one", 0)))
        self.assertEqual(best_options(SPREAD, same, "giver", (), nothing(SPREAD)), (0, 1))
        # Who owes the good, and gets it, need not buy it.
        self.assertEqual(advice(SPREAD, contract, "holder", (), ((3, 1), (-1, 1))), ((3, 1), (5, 2)))
        # At a later moment, at its prices.
        later = ("later", contract)
        self.assertEqual(advice(SPREAD, later, "holder", (0,), nothing(SPREAD)), ((2, 1), (3, 2)))
        self.assertEqual(advice(SPREAD, later, "holder", (1,), nothing(SPREAD)), ((1, 1), (3, 2)))
        self.assertEqual(advice(MONEY_ALONE, ("or", ("one", 0), NOTHING), "holder", (), ((-2, 1),)),
                         ((-1, 1), (-2, 1)))

    def test_times_are_those_of_the_market(self):
        contract = ("later", ("or", ("at", 1, ("one", 0)), ("at", 2, scaled(5, ("one", 0)))))
        self.assertEqual(advice(STEPS, contract, "holder", (0,), nothing(STEPS)), ((1, 1), (5, 1)))
        self.assertEqual(advice(EVEN, contract, "holder", (0,), nothing(EVEN)), ((1, 1), (0, 1)))
        self.assertEqual(advice(STEPS, ("early", 1, ("at", 0, ("one", 0))), "holder", (1, 0), nothing(STEPS)),
                         ((0, 1), (0, 1)))

    def test_with_money_alone_at_the_first_moment(self):
        """The better option is as good as the contract is before it is chosen."""
        for market in FAIR_MARKETS:
            for contract in ALL_CONTRACTS:
                told = Played(market, contract).told(())
                if told[0] != "ask":
                    continue
                held = nothing(market, 3)
                try:
                    found = numbers(advice(market, contract, told[1], (), held))
                    lowest, highest = numbers(interval(market, contract))
                    costs = [Fraction(*cost(market, each if told[1] == "giver" else ("give", each))[0])
                             for each in told[2:]]
                except TooLarge:
                    continue
                self.assertEqual(found, [3 - money for money in costs])
                self.assertEqual(max(found), 3 - highest if told[1] == "giver" else 3 + lowest)

    def test_who_chooses_so_needs_no_more_money(self):
        for market in (SPREAD, STEPS):
            for contract in CONTRACTS["giver"]:
                if Played(market, contract).told(())[0] != "ask":
                    continue
                best = best_options(market, contract, "giver", (), nothing(market))
                told = worth_of_ways(market, contract, "giver")
                least = min(Fraction(*money) for _, money in told)
                options = {way[0][1] for way, money in told if Fraction(*money) == least}
                self.assertEqual(best, tuple(sorted(options)))


def holding(source, goods):
    return tuple(pair(Fraction(source.randint(-6, 9), source.randint(1, 3))) for _ in range(goods))


class Errors(unittest.TestCase):
    CALLS = (advice, best_options)

    def check(self, error, *told):
        for call in self.CALLS:
            self.assertRaises(error, call, *told)

    def test_errors_of_the_market_come_first(self):
        for call in self.CALLS:
            check_market_errors(self, lambda market: call(market, ("one", 9), "nobody", (9,), ()))

    def test_then_those_of_the_contract(self):
        for market in (EXAMPLE, WIDE, GAIN):
            for contract in (("one", 4), ("at", -1, NOTHING), nested("later", 20), ("both", ors(20), NOTHING)):
                self.check(ContractError, market, contract, "nobody", (9,), ())
                self.check(ContractError, market, contract, "giver", (), nothing(market))

    def test_then_sides_that_are_none(self):
        for market in (EXAMPLE, GAIN):
            for side in ("", "Giver", "both"):
                self.check(WayError, market, ("or", NOTHING, NOTHING), side, (9,), ())
                self.check(WayError, market, ("or", NOTHING, NOTHING), side, (), nothing(market))

    def test_then_histories(self):
        """Those that do not fit, and those whose place asks the other side, or nobody."""
        contract = ("or", ("later", either(NOTHING, ("one", 1))), ("one", 0))
        for market in (EXAMPLE, (2, GAIN[1])):
            for held in ((), nothing(market), nothing(market) * 2):
                for history in ((2,), (-1,), (0, 9), (1, 0, 0), (0, 0, 2), (0, 0, 0, 0)):
                    self.check(HistoryError, market, contract, "holder", history, held)
                    self.check(HistoryError, market, contract, "giver", history, held)
                for history in ((), (0,), (1,), (0, 0, 0), (1, 0), (0, 0)):
                    for side in SIDES:
                        if {(): "holder", (0, 0): "giver"}.get(history) != side:
                            self.check(HistoryError, market, contract, side, history, held)
        self.assertEqual(advice(EXAMPLE, contract, "giver", (0, 0), nothing(EXAMPLE)), ((0, 1), (-3, 1)))

    def test_then_what_is_held(self):
        large = ("or", ors(9), ("both", ors(5), ors(5)))
        for market in (EXAMPLE, GAIN, (2, star(39, (price(1, 1),)))):
            for contract in (("or", NOTHING, NOTHING), large):
                for held in ((), ((1, 1),), nothing(market) + ((0, 1),)):
                    self.check(PlanError, market, contract, "holder", (), held)
        self.check(PlanError, MONEY_ALONE, ("or", NOTHING, NOTHING), "holder", (), ((0, 1), (0, 1)))

    def test_then_too_many_settled_histories_behind_it(self):
        for root, error in ((1, None), (2, SureGain)):
            # The good brings 1 behind, whatever it costs or brings at first.
            market = (2, ((price(root, root),), (((price(1, 1),), ()),) * 39))
            self.check(TooLarge, market, ors(6), "holder", (), nothing(market))
            self.check(TooLarge, market, ors(12), "holder", (0,), nothing(market))
            # 11 settled places at first, and 39 behind each: those behind one option do not count for the other.
            for contract, history in ((ors(5), ()), (ors(10), (0,)), (ors(10), (1,)), (ors(12), (0, 0))):
                if error is None:
                    self.assertEqual(advice(market, contract, "holder", history, nothing(market)), ((0, 1), (0, 1)))
                else:
                    self.check(SureGain, market, contract, "holder", history, nothing(market))

    def test_then_too_many_ways_behind_it(self):
        for market, error in (((2, star(6, (price(1, 1),))), None), (GAIN, SureGain)):
            choice = ("at", 1, ors(2))
            # 64 ways behind one option, and 1 behind the other one.
            for contract, side in ((("or", choice, NOTHING), "holder"), (("give", ("or", choice, NOTHING)), "giver")):
                self.check(TooLarge, market, contract, side, (), nothing(market))
                later = ("or", contract, NOTHING)
                self.check(TooLarge, market, later, side, (0,), nothing(market))
            # Ways of the other side do not count.
            for contract, side in ((("or", ("give", choice), NOTHING), "holder"), (either(choice, NOTHING), "giver")):
                if error is None:
                    self.assertEqual(advice(market, contract, side, (), nothing(market)), ((0, 1), (0, 1)))
                else:
                    self.check(SureGain, market, contract, side, (), nothing(market))

    def test_a_sure_gain_comes_last(self):
        self.check(SureGain, GAIN, ("or", NOTHING, ("one", 1)), "holder", (), nothing(GAIN))
        self.check(SureGain, GAIN, ("later", either(NOTHING, ("one", 1))), "giver", (3,), nothing(GAIN))


class Times(unittest.TestCase):
    def test_as_large_as_can_be(self):
        source = random.Random(63)
        payoffs = ("scale(greatest(minus(buy(1), sell(2)), number(1/2)), one(2))", "one(2)",
                   "scale(number(3/2), one(1))", "scale(least(buy(1), buy(2)), one(1))",
                   "scale(greatest(minus(number(4), buy(1)), number(0)), one(0))")
        four = "or(or({}, {}), or({}, later(or({}, {}))))".format(*payoffs)
        texts = (f"early(3, {payoffs[0]})", f"both({four}, later(or(one(1), one(2))))",
                 f"or(give(or(give(one(1)), give(later(or({payoffs[0]}, one(2)))))), later(or({payoffs[3]}, one(1))))",
                 "or(or(one(1), one(2)), later(give(or(give(scale(number(2), one(1))), give(one(2))))))")
        told = 0
        for branches in ((6,), (2, 2), (1, 5), (1, 1, 1, 1, 2), (3, 1)):
            for spread in (Fraction(0), Fraction(1, 30), Fraction(1, 5)):
                market = random_market(source, 3, branches, spread, Fraction(0))
                self.assertEqual(len(moments(market)), 7)
                for text in texts:
                    contract = read_contract(text)
                    for each, side in ((contract, "holder"), (("give", contract), "giver")):
                        begin = time.perf_counter()
                        try:
                            advice(market, each, side, (), holding(source, 3))
                            told += 1
                        except TooLarge:
                            pass
                        self.assertLess(time.perf_counter() - begin, 10)
        self.assertGreater(told, 60)


if __name__ == "__main__":
    unittest.main()
