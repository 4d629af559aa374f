"""Points 801 to 804, 806 and 1004: what contracts cost, safe prices, hedges and bounds."""

import random
import time
import unittest
from fractions import Fraction

from linear import numbers, pair
from nolunch.choices import ways
from nolunch.contracts import check_contract, depth_of, size_of
from nolunch.errors import ContractError, SureGain, TooLarge, WayError
from nolunch.gains import sure_gain
from nolunch.hedging import cost, interval, worth_of_ways
from nolunch.markets import moments
from nolunch.texts import read_contract
from playing import (ALL_CONTRACTS, CONTRACTS, EVEN, FAIR_MARKETS, SPREAD, STEPS, Played,
                     either, hold_cost, less_or_same, scaled)
from samples import (EXAMPLE, LINE, MONEY_ALONE, MONEY_TREE, WIDE, chain, check_market_errors,
                     is_plain, price, star)
from test_contracts import NOTHING, nested, row_of
from test_gains import random_market
from test_histories import ors

# The good costs 1 and brings 2 at each of six moments.
GAIN = (2, ((price(1, 1),), (((price(2, 2),), ()),) * 6))
CALL = read_contract("at(1, scale(greatest(minus(buy(1), number(2)), number(0)), one(0)))")


def too_large(market, contract, side):
    played = Played(market, contract)
    return len(played.settled) > 200 or len(ways_counted(played, side)) > 64


def ways_counted(played, side):
    asking = sum(played.asked(history, side) for history in played.all)
    return played.ways(side) if asking <= 12 else range(65)


class Cost(unittest.TestCase):
    def test_every_kind_of_contract(self):
        told = 0
        for market in FAIR_MARKETS:
            for kind, contracts in CONTRACTS.items():
                for contract in contracts:
                    with self.subTest(kind=kind, contract=contract, goods=market[0]):
                        if too_large(market, contract, "giver"):
                            self.assertRaises(TooLarge, cost, market, contract)
                        else:
                            hold_cost(self, market, contract, cost(market, contract))
                            told += 1
        self.assertGreater(told, 110)

    def check_money(self, market, text, money):
        with self.subTest(contract=text):
            told = cost(market, read_contract(text))
            self.assertEqual(told[0], pair(money))
            hold_cost(self, market, read_contract(text), told)

    def test_known_ones(self):
        self.check_money(SPREAD, "nothing", 0)
        self.check_money(SPREAD, "one(0)", 1)
        self.check_money(SPREAD, "one(1)", 2)
        self.check_money(SPREAD, "give(one(1))", -1)
        self.check_money(SPREAD, "scale(number(-2), one(1))", -2)
        self.check_money(SPREAD, "at(1, one(1))", 2)
        self.check_money(SPREAD, "at(1, scale(number(-1), one(1)))", -1)
        self.check_money(SPREAD, "or(one(0), one(1))", 2)
        self.check_money(SPREAD, "give(or(give(one(0)), give(one(1))))", 1)
        self.check_money(SPREAD, "early(1, one(1))", 2)
        self.check_money(SPREAD, "at(7, one(1))", 0)
        self.check_money(EVEN, "one(1)", 2)
        self.check_money(EVEN, "give(one(1))", -2)
        # Half a good is bought for it, or half of each.
        self.check_money(EVEN, "at(1, scale(greatest(minus(buy(1), number(2)), number(0)), one(0)))",
                         Fraction(1, 2))
        self.check_money(EVEN, "at(1, or(one(1), scale(number(2), one(0))))", Fraction(5, 2))
        self.check_money(EVEN, "at(1, give(or(give(one(1)), give(scale(number(2), one(0))))))",
                         Fraction(3, 2))
        # To be told ahead which one it is makes neither better.
        self.check_money(EVEN, "or(at(1, one(1)), at(1, scale(number(2), one(0))))", 2)
        self.check_money(STEPS, "later(later(scale(greatest(minus(buy(1), number(4)), number(0)), one(0))))",
                         Fraction(5, 4))
        self.check_money(STEPS, "early(2, scale(greatest(minus(number(4), buy(1)), number(0)), one(0)))",
                         Fraction(5, 4))
        # What is given ends, or is given once only, at the moments where the good is dear.
        self.check_money(STEPS, "until(less(number(5), buy(1)), later(one(1)))", 1)
        self.check_money(STEPS, "later(when(less(number(5), buy(1)), one(1)))", 3)

    def test_one_good_and_one_moment(self):
        for market in (MONEY_ALONE, MONEY_TREE, (1, star(3)), (1, chain(5))):
            for contract in (NOTHING, ("one", 0), ("give", ("one", 0)), ("or", ("one", 0), NOTHING),
                             either(("one", 0), NOTHING), ("early", 1, scaled(-2, ("one", 0))),
                             ("at", 1, ("both", ("or", NOTHING, ("one", 0)), either(NOTHING, ("one", 0))))):
                hold_cost(self, market, contract, cost(market, contract))
        alone = (2, ((price(3, 2),), ()))
        for contract in (("one", 1), ("give", ("one", 1)), ("or", ("one", 1), scaled(2, ("one", 0))),
                         either(("one", 1), scaled(2, ("one", 0))), ("later", ("one", 1))):
            hold_cost(self, alone, contract, cost(alone, contract))
        self.assertEqual(cost(alone, ("one", 1))[0], (3, 1))
        self.assertEqual(cost(alone, ("give", ("one", 1)))[0], (-2, 1))
        self.assertEqual(cost(alone, ("later", ("one", 1)))[0], (0, 1))

    def test_prices_of_0(self):
        free = (2, ((price(0, 0),), (((price(0, 0),), ()), ((price(1, 0),), ()))))
        half = (2, ((price(1, 0),), (((price(2, 0),), ()), ((price(0, 0),), ()))))
        for market in (free, half):
            self.assertEqual(sure_gain(market)[0], "fair")
            for contract in ALL_CONTRACTS:
                hold_cost(self, market, contract, cost(market, contract))

    def test_four_goods(self):
        for text in ("one(3)", "at(2, scale(greatest(minus(buy(1), buy(3)), number(0)), one(2)))",
                     "or(both(one(1), one(2)), at(2, or(one(3), scale(buy(1), one(2)))))",
                     "both(early(1, one(2)), give(early(0, one(3))))"):
            contract = read_contract(text)
            hold_cost(self, WIDE, contract, cost(WIDE, contract))

    def test_early_ends(self):
        for text in ("until(less(number(2), buy(1)), both(one(0), at(1, or(one(1), one(0)))))",
                     "until(same(buy(1), sell(1)), early(2, one(1)))",
                     "both(one(1), until(less(buy(1), number(9)), or(one(0), one(1))))",
                     "give(until(less(number(4), buy(1)), later(early(2, both(one(1), one(0))))))"):
            for market in (SPREAD, STEPS):
                contract = read_contract(text)
                hold_cost(self, market, contract, cost(market, contract))

    def test_contracts_at_the_limits(self):
        deep = nested("give", 17)
        deep = ("both", ("one", 1), ("or", ("one", 0), deep))
        self.assertEqual(depth_of(deep), 20)
        many = scaled(2, ("one", 1))
        for _ in range(9):
            many = ("both", ("later", ("one", 0)), many)
        many = ("both", many, ors(5))
        self.assertEqual(size_of(many), 40)
        for contract in (deep, many):
            hold_cost(self, SPREAD, contract, cost(SPREAD, contract))
            lowest, highest = interval(SPREAD, contract)
            self.assertEqual(highest, cost(SPREAD, contract)[0])
            self.assertTrue(less_or_same(lowest, highest))

    def test_random_contracts_in_random_markets(self):
        source = random.Random(8)
        told = 0
        while told < 60:
            goods = source.choice((2, 3, 4))
            market = random_market(source, goods, source.choice(((2,), (3,), (2, 2), (1, 3), (1, 1, 2))),
                                   Fraction(source.randint(0, 2), 10), Fraction(0))
            contract = random_contract(source, goods, 4)
            if size_of(contract) > 25 or too_large(market, contract, "giver"):
                continue
            with self.subTest(contract=contract, market=market):
                hold_cost(self, market, contract, cost(market, contract))
            told += 1

    def test_sure_gain_exactly_for_markets_with_one(self):
        source = random.Random(10)
        kinds = []
        for drift in (0, Fraction(1, 20), Fraction(1, 9), Fraction(1, 3)):
            for _ in range(6):
                market = random_market(source, 2, (2, 2), Fraction(1, 20), Fraction(drift))
                kind, _ = sure_gain(market)
                kinds.append(kind)
                for call in (lambda: cost(market, CALL), lambda: interval(market, CALL),
                             lambda: worth_of_ways(market, CALL, "giver"),
                             lambda: worth_of_ways(market, CALL, "holder")):
                    if kind == "gain":
                        self.assertRaises(SureGain, call)
                    else:
                        call()
        self.assertEqual(set(kinds), {"gain", "fair"})


def random_contract(source, goods, depth):
    """A contract with choices of both sides, values and conditions, not very large."""
    def inner():
        return random_contract(source, goods, depth - 1)
    number = ("number", pair(Fraction(source.randint(-4, 9), source.randint(1, 3))))
    good = source.randrange(goods)
    if depth == 0 or source.random() < 0.2:
        return source.choice((("one", good), ("scale", number, ("one", good)),
                              ("scale", ("greatest", ("minus", ("sell", good), number), ("buy", 0)),
                               ("one", 0)), NOTHING))
    condition = source.choice((("less", ("buy", good), number), ("not", ("less", ("sell", good), number))))
    word = source.choice(("both", "or", "or", "give", "at", "early", "later", "when", "until", "scale"))
    if word in ("both", "or"):
        return (word, inner(), inner())
    if word in ("give", "later"):
        return (word, inner())
    if word in ("at", "early"):
        return (word, source.randint(0, 2), inner())
    return (word, number if word == "scale" else condition, inner())


class Interval(unittest.TestCase):
    def check(self, market, contract, lowest, highest):
        with self.subTest(contract=contract):
            found = interval(market, contract)
            self.assertTrue(is_plain(found))
            self.assertEqual(found, (pair(lowest), pair(highest)))

    def test_plain_contracts(self):
        for market in FAIR_MARKETS + (EXAMPLE, MONEY_ALONE, MONEY_TREE):
            self.check(market, NOTHING, 0, 0)
            for number in (0, 1, Fraction(-7, 2)):
                self.check(market, scaled(number, ("one", 0)), number, number)
            for good in range(1, market[0]):
                buy, sell = market[1][0][good - 1]
                self.check(market, ("one", good), Fraction(*sell), Fraction(*buy))
                self.check(market, ("give", ("one", good)), -Fraction(*buy), -Fraction(*sell))
                self.check(market, scaled(3, ("one", good)), 3 * Fraction(*sell), 3 * Fraction(*buy))
        # Its later prices make the first ones of good 1 tighter than 2 and 1.
        self.check(WIDE, ("one", 1), Fraction(3, 2), Fraction(5, 3))
        for contract in (("one", 1), ("give", ("one", 1))):
            hold_cost(self, WIDE, contract, cost(WIDE, contract))
        # Money at some later time is worth as much, if that comes.
        for time_ in (0, 1, 2):
            self.check(STEPS, ("at", time_, scaled(5, ("one", 0))), 5, 5)
            self.check(STEPS, ("at", time_, ("one", 1)), 4, 4)
        self.check(STEPS, ("at", 3, ("one", 0)), 0, 0)
        self.check(STEPS, ("later", ("later", ("later", ("one", 1)))), 0, 0)

    def test_two_next_moments_without_a_spread(self):
        for market in (EVEN, STEPS):
            for contract in CONTRACTS["none"] + (CALL,):
                lowest, highest = interval(market, contract)
                self.assertEqual(lowest, highest)
        self.check(EVEN, CALL, Fraction(1, 2), Fraction(1, 2))
        # With three next moments, they differ.
        three = (2, ((price(2, 2),), (((price(3, 3),), ()), ((price(2, 2),), ()), ((price(1, 1),), ()))))
        self.check(three, CALL, 0, Fraction(1, 2))

    def test_against_cost(self):
        for market in FAIR_MARKETS:
            for contract in ALL_CONTRACTS:
                opposite = ("give", contract)
                if too_large(market, contract, "giver") or too_large(market, opposite, "giver"):
                    self.assertRaises(TooLarge, interval, market, contract)
                    continue
                lowest, highest = interval(market, contract)
                self.assertTrue(less_or_same(lowest, highest))
                self.assertEqual(highest, cost(market, contract)[0])
                money = cost(market, opposite)[0]
                self.assertEqual(lowest, (-money[0], money[1]))

    def test_the_opposite_is_not_asked_for_its_size(self):
        self.assertEqual((depth_of(nested("later", 19)), size_of(("give", row_of(20)))), (20, 40))
        for contract in (nested("later", 19), ("give", row_of(20))):
            check_contract(2, contract)
            lowest, highest = interval(SPREAD, contract)
            self.assertEqual((lowest, highest), ((0, 1), (0, 1)))
            self.assertRaises(ContractError, interval, SPREAD, ("give", ("give", contract)))


class WorthOfWays(unittest.TestCase):
    def test_known_ones(self):
        contract = read_contract("or(one(0), at(1, or(one(1), scale(number(3), one(0)))))")
        self.assertEqual(worth_of_ways(EVEN, contract, "giver"), (((), (3, 1)),))
        found = dict(worth_of_ways(EVEN, contract, "holder"))
        self.assertEqual(found, {(((), 0),): (1, 1),
                                 (((), 1), ((1, 0), 0), ((1, 1), 0)): (2, 1),
                                 (((), 1), ((1, 0), 0), ((1, 1), 1)): (3, 1),
                                 (((), 1), ((1, 0), 1), ((1, 1), 0)): (2, 1),
                                 (((), 1), ((1, 0), 1), ((1, 1), 1)): (3, 1)})
        self.assertEqual(worth_of_ways(SPREAD, either(("one", 1), ("one", 0)), "giver"),
                         (((((), 0),), (2, 1)), ((((), 1),), (1, 1))))
        self.assertEqual(worth_of_ways(SPREAD, ("or", ("one", 1), scaled(-2, ("one", 1))), "holder"),
                         (((((), 0),), (1, 1)), ((((), 1),), (-4, 1))))

    def test_against_cost_and_interval(self):
        for market in FAIR_MARKETS:
            for contract in ALL_CONTRACTS:
                opposite = ("give", contract)
                if too_large(market, contract, "giver") or too_large(market, opposite, "giver"):
                    continue
                with self.subTest(contract=contract, goods=market[0]):
                    giver = worth_of_ways(market, contract, "giver")
                    holder = worth_of_ways(market, contract, "holder")
                    self.assertTrue(is_plain(giver) and is_plain(holder))
                    self.assertEqual(tuple(way for way, _ in giver), ways(market, contract, "giver"))
                    self.assertEqual(tuple(way for way, _ in holder), ways(market, contract, "holder"))
                    lowest, highest = interval(market, contract)
                    self.assertEqual(min(numbers(money for _, money in giver)), Fraction(*highest))
                    self.assertEqual(max(numbers(money for _, money in holder)), Fraction(*lowest))
                    # Each number is the worth of a right bound with its way.
                    worths = hold_cost(self, market, contract, cost(market, contract))
                    self.assertEqual(numbers(money for _, money in giver), worths)
                    worths = hold_cost(self, market, opposite, cost(market, opposite))
                    self.assertEqual(numbers(money for _, money in holder), [-worth for worth in worths])

    def test_the_hedge_has_the_way_with_the_least_money(self):
        for market in FAIR_MARKETS:
            for contract in CONTRACTS["giver"]:
                money, (_, way, _), _ = cost(market, contract)
                self.assertEqual(dict(worth_of_ways(market, contract, "giver"))[way], money)


class Errors(unittest.TestCase):
    def test_errors_of_the_market_come_first(self):
        check_market_errors(self, lambda market: cost(market, ("one", 9)))
        check_market_errors(self, lambda market: interval(market, ("one", 9)))
        check_market_errors(self, lambda market: worth_of_ways(market, ("one", 9), "nobody"))

    def test_errors_of_the_contract_come_next(self):
        for market in (EXAMPLE, LINE):
            for contract in (("one", 3), ("at", -1, NOTHING), nested("later", 20),
                             ("both", ("one", -1), ("both", ors(8), ors(9)))):
                self.assertRaises(ContractError, cost, market, contract)
                self.assertRaises(ContractError, interval, market, contract)
                for side in ("giver", "holder", "nobody"):
                    self.assertRaises(ContractError, worth_of_ways, market, contract, side)

    def test_sides_that_are_none(self):
        for side in ("", "Holder", "both"):
            self.assertRaises(WayError, worth_of_ways, EXAMPLE, NOTHING, side)
            self.assertRaises(WayError, worth_of_ways, LINE, NOTHING, side)
            self.assertRaises(WayError, worth_of_ways, GAIN, ("or", ("at", 1, ors(2)), NOTHING), side)

    def test_too_many_ways(self):
        """Those of the giver, for cost; then a sure gain; then those of the holder, for interval."""
        fair = (2, star(6, (price(1, 1),)))
        holder = ("or", ("at", 1, ors(2)), NOTHING)
        giver = ("give", holder)
        for market in (fair, GAIN):
            self.assertRaises(TooLarge, cost, market, giver)
            self.assertRaises(TooLarge, interval, market, giver)
            self.assertRaises(TooLarge, worth_of_ways, market, giver, "giver")
            self.assertRaises(TooLarge, worth_of_ways, market, holder, "holder")
        self.assertEqual(cost(fair, holder)[0], (0, 1))
        self.assertRaises(TooLarge, interval, fair, holder)
        self.assertRaises(TooLarge, cost, fair, ("give", holder))
        self.assertEqual(worth_of_ways(fair, holder, "giver"), (((), (0, 1)),))
        self.assertEqual(worth_of_ways(fair, giver, "holder"), (((), (0, 1)),))
        self.assertRaises(SureGain, cost, GAIN, holder)
        self.assertRaises(SureGain, interval, GAIN, holder)
        self.assertRaises(SureGain, worth_of_ways, GAIN, holder, "giver")
        self.assertRaises(SureGain, worth_of_ways, GAIN, giver, "holder")

    def test_too_many_settled_histories(self):
        for root in (1, 2):
            market = (2, ((price(root, root),), (((price(2, 2),), ()),) * 39))
            for call in (cost, interval, lambda *told: worth_of_ways(*told, "holder")):
                self.assertRaises(TooLarge, call, market, ors(6))
                if root == 1:
                    self.assertRaises(SureGain, call, market, ors(5))
                else:
                    call(market, ors(5))


class Opposites(unittest.TestCase):
    def test_choices_of_the_holder_alone(self):
        for market in FAIR_MARKETS:
            for contract in CONTRACTS["none"] + CONTRACTS["holder"]:
                together = ("both", contract, ("give", contract))
                if too_large(market, together, "giver"):
                    continue
                with self.subTest(contract=contract):
                    told = cost(market, together)
                    self.assertEqual(told[0], (0, 1))
                    hold_cost(self, market, together, told)

    def test_without_choices_the_order_has_no_effect(self):
        for market in FAIR_MARKETS:
            for contract in CONTRACTS["none"]:
                self.assertEqual(cost(market, ("both", ("give", contract), contract))[0], (0, 1))

    def test_the_other_one_first(self):
        # The giver tells first which one it is to be got; then the holder takes the other one.
        contract = ("or", ("one", 1), scaled(Fraction(3, 2), ("one", 0)))
        self.assertEqual(cost(SPREAD, ("both", contract, ("give", contract)))[0], (0, 1))
        other = ("both", ("give", contract), contract)
        told = cost(SPREAD, other)
        self.assertEqual(told[0], (1, 2))
        hold_cost(self, SPREAD, other, told)

    def test_choices_of_the_giver(self):
        contract = either(("one", 1), scaled(Fraction(3, 2), ("one", 0)))
        for together in (("both", contract, ("give", contract)), ("both", ("give", contract), contract)):
            told = cost(SPREAD, together)
            hold_cost(self, SPREAD, together, told)
        self.assertEqual(cost(SPREAD, ("both", contract, ("give", contract)))[0], (1, 2))
        self.assertEqual(cost(SPREAD, ("both", ("give", contract), contract))[0], (0, 1))
        for market in FAIR_MARKETS:
            for contract in CONTRACTS["giver"]:
                together = ("both", ("give", contract), contract)
                if not too_large(market, together, "giver"):
                    self.assertEqual(cost(market, together)[0], (0, 1))


class Times(unittest.TestCase):
    """Contracts as large as point 701 allows are answered in seconds."""

    def check(self, market, contract):
        self.assertEqual((market[0], len(moments(market))), (3, 7))
        begin = time.perf_counter()
        told = cost(market, contract)
        giver = worth_of_ways(market, contract, "giver")
        self.assertLess(time.perf_counter() - begin, 10)
        worths = hold_cost(self, market, contract, told, ways(market, contract, "giver"))
        self.assertEqual(numbers(money for _, money in giver), worths)
        return len(told[2])

    def markets(self):
        source = random.Random(12)
        for branches in ((6,), (2, 2), (1, 1, 1, 1, 2), (1, 5), (3, 1)):
            for spread in (Fraction(0), Fraction(1, 30), Fraction(1, 5)):
                yield random_market(source, 3, branches, spread, Fraction(0))

    def test_many_settled_histories(self):
        payoffs = ("scale(greatest(minus(buy(1), sell(2)), number(1/2)), one(2))", "one(2)",
                   "scale(number(3/2), one(1))", "scale(least(buy(1), buy(2)), one(1))",
                   "scale(greatest(minus(number(4), buy(1)), number(0)), one(0))")
        four = "or(or({}, {}), or({}, later(or({}, {}))))".format(*payoffs)
        texts = [f"later({four})", f"both({four}, later(or(one(1), one(2))))",
                 f"both(or(one(1), one(2)), later({four}))", f"early(3, {payoffs[0]})",
                 f"both(early(1, {payoffs[0]}), later(or({payoffs[2]}, {payoffs[4]})))"]
        # 28 places at the first moment, and one at each other one behind each.
        texts.append(
            "both(or(or(one(1), later(one(2))), or(later(scale(buy(1), one(2))), nothing)), "
            "or(or(or(one(1), give(one(1))), or(give(one(2)), one(2))), "
            "or(or(later(scale(sell(2), one(1))), later(scale(buy(1), one(0)))), "
            "at(2, scale(greatest(minus(buy(1), buy(2)), number(0)), one(0))))))")
        many = []
        for market in self.markets():
            for contract in map(read_contract, texts):
                settled = len(Played(market, contract).settled)
                if settled <= 200:
                    many.append(settled)
                    self.check(market, contract)
        self.assertEqual(max(many), 196)

    def test_many_ways(self):
        source = random.Random(13)
        asked = "later(give(or(give(scale(number(2), one(1))), give(scale(buy(1), one(2))))))"
        some = "or(or(or(one(1), one(2)), or(one(0), scale(buy(1), one(2)))), later({}))"
        later = "or(or(or(one(1), one(0)), or(one(2), nothing)), or(scale(buy(2), one(1)), one(1)))"
        for spread in (Fraction(0), Fraction(1, 30), Fraction(1, 5)):
            market = random_market(source, 3, (6,), spread, Fraction(0))
            for other in ("one(1)", some.format(later)):
                contract = read_contract(f"or({other}, {asked})")
                self.assertEqual(self.check(market, contract), 64)
            # All 64 of them at the first moment.
            contract = read_contract("give(both({0}, {0}))".format(
                "or(or(or(one(1), one(2)), or(one(0), nothing)), "
                "or(or(give(one(1)), give(one(2))), or(give(one(0)), later(one(1)))))"))
            self.assertRaises(TooLarge, cost, market, contract)
            contract = read_contract("give(both({0}, {0}))".format(
                "or(or(or(one(1), one(2)), or(one(0), nothing)), or(give(one(2)), later(one(1))))"))
            self.assertRaises(TooLarge, cost, market, contract)
            contract = read_contract("give(both({0}, {0}))".format(
                "or(or(one(1), one(2)), or(give(one(0)), or(give(one(2)), later(one(1)))))"))
            self.assertEqual(self.check(market, contract), 25)


if __name__ == "__main__":
    unittest.main()
