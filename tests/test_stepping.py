"""Points 601 and 602: values and conditions at moments, and what contracts ask and pay there."""

import unittest

from nolunch.contracts import size_of
from nolunch.errors import ContractError, MomentError
from nolunch.stepping import faced, holds_at, value_at
from nolunch.texts import read_contract
from samples import (EXAMPLE, GOOD_MARKETS, LINE, MONEY_ALONE, WIDE, chain, check_market_errors,
                     is_plain, price)
from test_contracts import holding, nested, with_good

NOTHING = ("nothing",)
LESS = ("less", ("buy", 0), ("buy", 0))
# Two goods, three times; good 1 costs 2 and brings 1 at first, then 3 and 2, or 1 and 1, and so on.
DEEP = (2, ((price(2, 1),), (((price(3, 2),), (((price(5, 4),), ()), ((price(2, 2),), ()))),
                             ((price(1, 1),), (((price(1, 0),), ()), ((price(3, 1),), ()))))))


def contract_of(text):
    return read_contract(text)


def value_of(text):
    return read_contract("scale(" + text + ", nothing)")[1]


def condition_of(text):
    return read_contract("when(" + text + ", nothing)")[1]


class Values(unittest.TestCase):
    def check(self, market, path, text, told):
        with self.subTest(path=path, value=text):
            found = value_at(market, path, value_of(text))
            self.assertEqual(found, told)
            self.assertTrue(is_plain(found))

    def test_each_kind(self):
        for path, buy, sell in (((), 2, 1), ((0,), 3, 2), ((1,), 1, 1), ((0, 0), 5, 4), ((1, 0), 1, 0)):
            for text, told in (("number(-7/3)", (-7, 3)), ("buy(1)", (buy, 1)), ("sell(1)", (sell, 1)),
                               ("plus(buy(1), sell(1))", (buy + sell, 1)),
                               ("minus(sell(1), buy(1))", (sell - buy, 1)),
                               ("minus(number(9), sell(1))", (9 - sell, 1)),
                               ("times(buy(1), number(-2))", (-2 * buy, 1)),
                               ("least(buy(1), number(2))", (min(buy, 2), 1)),
                               ("least(number(2), sell(1))", (min(sell, 2), 1)),
                               ("greatest(buy(1), number(2))", (max(buy, 2), 1)),
                               ("greatest(number(2), sell(1))", (max(sell, 2), 1))):
                self.check(DEEP, path, text, told)

    def test_good_0(self):
        for market in GOOD_MARKETS + (DEEP,):
            for path in ((), (0,)) if market[1][1] else ((),):
                self.check(market, path, "buy(0)", (1, 1))
                self.check(market, path, "sell(0)", (1, 1))
        self.check(EXAMPLE, (0,), "minus(sell(1), buy(0))", (1, 1))

    def test_fractions_as_numbers(self):
        self.check(LINE, (0,), "buy(2)", (1, 2))
        self.check(LINE, (0,), "sell(2)", (1, 3))
        self.check(LINE, (0,), "plus(buy(2), sell(2))", (5, 6))
        self.check(LINE, (0,), "minus(buy(2), sell(2))", (1, 6))
        self.check(LINE, (0,), "times(buy(2), sell(2))", (1, 6))
        self.check(LINE, (0,), "times(buy(2), number(2))", (1, 1))
        self.check(LINE, (0,), "least(number(1/3), number(2/7))", (2, 7))
        self.check(LINE, (0,), "greatest(number(1/3), number(2/7))", (1, 3))
        self.check(LINE, (0,), "least(number(-1/3), number(-2/7))", (-1, 3))
        self.check(LINE, (0,), "greatest(number(-1/3), number(-2/7))", (-2, 7))
        self.check(MONEY_ALONE, (), "minus(number(1/2), number(1/2))", (0, 1))

    def test_nested(self):
        self.check(WIDE, (0, 1), "minus(times(buy(1), buy(2)), plus(sell(3), times(sell(1), buy(3))))",
                   (3, 1))
        self.check(WIDE, (), "greatest(least(buy(1), sell(3)), minus(buy(2), number(1/2)))", (5, 2))
        self.check(WIDE, (1, 0), "least(greatest(buy(1), sell(3)), minus(buy(2), number(1/2)))", (1, 2))

    def test_deep_ones(self):
        text = "plus(" * 150 + "buy(1)" + ", number(1))" * 150
        self.check(EXAMPLE, (0,), text, (153, 1))
        text = "minus(number(1), " * 151 + "buy(1)" + ")" * 151
        self.check(EXAMPLE, (0,), text, (-2, 1))

    def test_goods_that_are_none(self):
        for text in ("buy(2)", "sell(2)", "buy(-1)", "sell(-2)", "plus(number(1), buy(2))",
                     "greatest(times(buy(0), sell(7)), number(1))", "least(buy(-2), buy(1))"):
            self.assertRaises(ContractError, value_at, EXAMPLE, (), value_of(text))
            self.assertRaises(ContractError, value_at, EXAMPLE, (1,), value_of(text))
        self.assertRaises(ContractError, value_at, MONEY_ALONE, (), ("buy", 1))
        self.assertEqual(value_at(LINE, (), ("buy", 2)), (2, 1))

    def test_moments_that_are_none(self):
        for path in ((2,), (-1,), (0, 0), (1, -1)):
            self.assertRaises(MomentError, value_at, EXAMPLE, path, ("buy", 1))
            self.assertRaises(MomentError, value_at, EXAMPLE, path, ("number", (1, 1)))
            # The moment is looked at first.
            self.assertRaises(MomentError, value_at, EXAMPLE, path, ("buy", 2))

    def test_errors_of_the_market_come_first(self):
        check_market_errors(self, lambda market: value_at(market, (9,), ("buy", 9)))


class Conditions(unittest.TestCase):
    def check(self, market, path, text, told):
        with self.subTest(path=path, condition=text):
            self.assertIs(holds_at(market, path, condition_of(text)), told)

    def test_each_kind(self):
        for path, buy, sell in (((), 2, 1), ((0,), 3, 2), ((1,), 1, 1), ((0, 0), 5, 4), ((1, 0), 1, 0)):
            for text, told in (("less(buy(1), number(2))", buy < 2), ("less(number(2), buy(1))", buy > 2),
                               ("less(sell(1), buy(1))", sell < buy), ("same(buy(1), number(2))", buy == 2),
                               ("same(buy(1), sell(1))", buy == sell),
                               ("not(less(buy(1), number(2)))", buy >= 2),
                               ("not(same(buy(1), sell(1)))", buy != sell),
                               ("and(less(buy(1), number(4)), less(number(1), buy(1)))", 1 < buy < 4),
                               ("and(same(buy(1), number(3)), same(sell(1), number(2)))", buy == 3),
                               ("not(and(less(number(0), sell(1)), less(buy(1), number(3))))",
                                not (0 < sell and buy < 3)),
                               ("not(not(same(sell(1), number(1))))", sell == 1)):
                self.check(DEEP, path, text, told)

    def test_fractions_as_numbers(self):
        self.check(LINE, (0,), "less(sell(2), buy(2))", True)
        self.check(LINE, (0,), "less(buy(2), sell(2))", False)
        self.check(LINE, (0,), "less(number(-1/2), number(-1/3))", True)
        self.check(LINE, (0,), "less(number(2/7), number(1/3))", True)
        self.check(LINE, (0,), "same(times(buy(2), number(2/3)), sell(2))", True)
        self.check(LINE, (), "less(number(1/3), number(1/3))", False)

    def test_good_0(self):
        self.check(EXAMPLE, (), "same(buy(0), sell(0))", True)
        self.check(EXAMPLE, (), "same(buy(0), number(1))", True)
        self.check(EXAMPLE, (0,), "less(buy(0), sell(1))", True)
        self.check(MONEY_ALONE, (), "less(sell(0), number(1))", False)

    def test_goods_that_are_none(self):
        for text in ("less(buy(2), number(1))", "same(number(1), sell(-1))", "not(same(buy(0), buy(2)))",
                     "and(less(buy(0), buy(0)), same(sell(5), buy(0)))",
                     "and(same(buy(0), minus(buy(2), buy(0))), less(buy(0), buy(0)))"):
            self.assertRaises(ContractError, holds_at, EXAMPLE, (), condition_of(text))
            self.assertRaises(MomentError, holds_at, EXAMPLE, (2,), condition_of(text))

    def test_moments_that_are_none(self):
        for path in ((2,), (-1,), (0, 0), (1, -1)):
            self.assertRaises(MomentError, holds_at, EXAMPLE, path, LESS)

    def test_errors_of_the_market_come_first(self):
        check_market_errors(self, lambda market: holds_at(market, (9,), ("same", ("buy", 9), ("buy", 9))))


class Faced(unittest.TestCase):
    def check(self, path, text, told, market=DEEP):
        with self.subTest(path=path, contract=text):
            found = faced(market, path, contract_of(text))
            self.assertTrue(is_plain(found))
            self.assertEqual(found, told)

    def pays(self, path, text, amounts, left, market=DEEP):
        self.check(path, text, ("pay", amounts, contract_of(left)), market)

    def asks(self, path, text, side, first, second, market=DEEP):
        self.check(path, text, ("ask", side, contract_of(first), contract_of(second)), market)

    def idles(self, path, text, left, market=DEEP):
        self.pays(path, text, ((0, 1),) * market[0], left, market)

    def test_nothing_and_one(self):
        for path in ((), (0,), (1, 1)):
            self.idles(path, "nothing", "nothing")
            self.pays(path, "one(0)", ((1, 1), (0, 1)), "nothing")
            self.pays(path, "one(1)", ((0, 1), (1, 1)), "nothing")
        self.pays((), "one(2)", ((0, 1), (0, 1), (1, 1), (0, 1)), "nothing", WIDE)
        self.pays((), "one(3)", ((0, 1), (0, 1), (0, 1), (1, 1)), "nothing", WIDE)
        self.pays((), "one(0)", ((1, 1),), "nothing", MONEY_ALONE)
        self.idles((), "nothing", "nothing", MONEY_ALONE)

    def test_scale(self):
        self.pays((), "scale(number(5/2), one(1))", ((0, 1), (5, 2)), "scale(number(5/2), nothing)")
        self.pays((0,), "scale(number(-2), one(0))", ((-2, 1), (0, 1)), "scale(number(-2), nothing)")
        self.pays((0,), "scale(buy(1), both(one(0), one(1)))", ((3, 1), (3, 1)),
                  "scale(number(3), both(nothing, nothing))")
        self.pays((1,), "scale(minus(sell(1), buy(1)), one(1))", ((0, 1), (0, 1)),
                  "scale(number(0), nothing)")
        # The value stays what it was at the moment of entering.
        self.idles((), "scale(buy(1), later(one(1)))", "scale(number(2), one(1))")
        self.idles((), "scale(buy(1), at(2, one(1)))", "scale(number(2), at(2, one(1)))")
        self.pays((0, 0), "scale(number(2), at(2, one(1)))", ((0, 1), (2, 1)),
                  "scale(number(2), nothing)")

    def test_nested_scales(self):
        self.pays((0,), "scale(buy(1), scale(sell(1), one(0)))", ((6, 1), (0, 1)),
                  "scale(number(3), scale(number(2), nothing))")
        self.pays((0,), "scale(number(-1), scale(number(-1/2), one(0)))", ((1, 2), (0, 1)),
                  "scale(number(-1), scale(number(-1/2), nothing))")
        self.idles((0,), "scale(buy(1), later(scale(buy(1), one(0))))",
                   "scale(number(3), scale(buy(1), one(0)))")

    def test_scale_of_what_asks(self):
        # The value is not worked out yet, and the side is the same for a negative one.
        self.asks((), "scale(buy(1), or(one(0), one(1)))", "holder", "scale(buy(1), one(0))",
                  "scale(buy(1), one(1))")
        self.asks((), "scale(number(-3), or(one(0), one(1)))", "holder", "scale(number(-3), one(0))",
                  "scale(number(-3), one(1))")
        self.asks((0,), "scale(number(-3), give(or(one(0), one(1))))", "giver",
                  "scale(number(-3), give(one(0)))", "scale(number(-3), give(one(1)))")

    def test_both(self):
        self.pays((), "both(one(0), one(1))", ((1, 1), (1, 1)), "both(nothing, nothing)")
        self.pays((), "both(one(1), one(1))", ((0, 1), (2, 1)), "both(nothing, nothing)")
        self.pays((), "both(one(1), give(one(1)))", ((0, 1), (0, 1)), "both(nothing, give(nothing))")
        self.pays((0,), "both(later(one(0)), scale(number(1/2), one(0)))", ((1, 2), (0, 1)),
                  "both(one(0), scale(number(1/2), nothing))")
        self.pays((), "both(scale(number(1/2), one(0)), scale(number(1/3), one(0)))", ((5, 6), (0, 1)),
                  "both(scale(number(1/2), nothing), scale(number(1/3), nothing))")

    def test_both_asks_for_the_first_one_first(self):
        self.asks((), "both(or(one(0), one(1)), one(0))", "holder", "both(one(0), one(0))",
                  "both(one(1), one(0))")
        self.asks((), "both(one(0), or(one(0), one(1)))", "holder", "both(one(0), one(0))",
                  "both(one(0), one(1))")
        self.asks((), "both(give(or(one(0), nothing)), or(one(1), nothing))", "giver",
                  "both(give(one(0)), or(one(1), nothing))", "both(give(nothing), or(one(1), nothing))")
        self.asks((), "both(or(one(1), nothing), give(or(one(0), nothing)))", "holder",
                  "both(one(1), give(or(one(0), nothing)))", "both(nothing, give(or(one(0), nothing)))")
        # What asks later does not ask now, and what pays now does not pay while there is an ask.
        self.asks((), "both(later(or(one(0), nothing)), or(one(1), nothing))", "holder",
                  "both(later(or(one(0), nothing)), one(1))", "both(later(or(one(0), nothing)), nothing)")

    def test_give(self):
        self.pays((), "give(one(1))", ((0, 1), (-1, 1)), "give(nothing)")
        self.pays((), "give(give(one(1)))", ((0, 1), (1, 1)), "give(give(nothing))")
        self.idles((), "give(nothing)", "give(nothing)")
        self.idles((), "give(later(one(0)))", "give(one(0))")
        self.asks((), "give(or(one(0), one(1)))", "giver", "give(one(0))", "give(one(1))")
        self.asks((), "give(give(or(one(0), one(1))))", "holder", "give(give(one(0)))",
                  "give(give(one(1)))")
        self.asks((), "give(early(0, one(1)))", "giver", "give(one(1))",
                  "give(later(early(0, one(1))))")
        self.asks((), "give(both(give(or(one(0), nothing)), or(one(1), nothing)))", "holder",
                  "give(both(give(one(0)), or(one(1), nothing)))",
                  "give(both(give(nothing), or(one(1), nothing)))")

    def test_or(self):
        self.asks((), "or(one(0), one(1))", "holder", "one(0)", "one(1)")
        self.asks((1, 1), "or(nothing, nothing)", "holder", "nothing", "nothing")
        # Neither side of a choice is entered yet.
        self.asks((), "or(or(one(0), one(1)), give(or(nothing, one(0))))", "holder",
                  "or(one(0), one(1))", "give(or(nothing, one(0)))")
        self.asks((), "or(nothing, one(0))", "holder", "nothing", "one(0)", MONEY_ALONE)

    def test_at(self):
        self.idles((), "at(1, one(1))", "at(1, one(1))")
        self.idles((), "at(2, or(one(1), nothing))", "at(2, or(one(1), nothing))")
        self.pays((0,), "at(1, one(1))", ((0, 1), (1, 1)), "nothing")
        self.pays((), "at(0, one(1))", ((0, 1), (1, 1)), "nothing")
        self.asks((1,), "at(1, or(one(1), nothing))", "holder", "one(1)", "nothing")
        self.idles((0,), "at(1, later(one(0)))", "one(0)")
        for path, time in (((0,), 0), ((0, 1), 1), ((0, 1), 0)):
            self.idles(path, f"at({time}, one(1))", "nothing")
            self.idles(path, f"at({time}, or(one(1), nothing))", "nothing")
        # Behind the last moment, nothing comes of it.
        self.idles((0, 1), "at(3, one(1))", "at(3, one(1))")
        self.idles((0, 1), "at(1000000, one(1))", "at(1000000, one(1))")

    def test_when(self):
        text = "when(less(number(2), buy(1)), one(1))"
        self.idles((), text, text)
        self.idles((1,), text, text)
        self.pays((0,), text, ((0, 1), (1, 1)), "nothing")
        self.pays((1, 1), text, ((0, 1), (1, 1)), "nothing")
        self.idles((1, 0), text, text)
        asking = "when(same(buy(1), number(2)), or(one(0), later(one(1))))"
        self.asks((), asking, "holder", "one(0)", "later(one(1))")
        self.idles((0,), asking, asking)
        self.idles((), "when(same(buy(1), number(2)), later(one(1)))", "one(1)")

    def test_until(self):
        over = "until(same(buy(1), number(2)), {})"
        self.idles((), over.format("one(1)"), "nothing")
        self.idles((), over.format("or(one(1), one(0))"), "nothing")
        self.pays((0,), over.format("one(1)"), ((0, 1), (1, 1)), over.format("nothing"))
        self.idles((1,), over.format("at(2, one(0))"), over.format("at(2, one(0))"))
        self.idles((0, 1), over.format("at(2, one(0))"), "nothing")
        self.asks((0,), over.format("or(one(1), later(one(0)))"), "holder", over.format("one(1)"),
                  over.format("later(one(0))"))
        self.asks((0,), over.format("give(or(one(1), nothing))"), "giver", over.format("give(one(1))"),
                  over.format("give(nothing)"))
        self.idles((0,), over.format("later(one(0))"), over.format("one(0)"))

    def test_early(self):
        for path in ((), (0,)):
            for time in (1, 2, 9):
                self.asks(path, f"early({time}, one(1))", "holder", "one(1)",
                          f"later(early({time}, one(1)))")
        self.asks((), "early(0, one(1))", "holder", "one(1)", "later(early(0, one(1)))")
        self.asks((0, 0), "early(2, or(one(0), one(1)))", "holder", "or(one(0), one(1))",
                  "later(early(2, or(one(0), one(1))))")
        self.idles((0,), "early(0, one(1))", "nothing")
        self.idles((0, 0), "early(1, one(1))", "nothing")
        self.idles((0, 0), "early(0, or(one(0), one(1)))", "nothing")

    def test_later(self):
        self.idles((), "later(one(1))", "one(1)")
        self.idles((0,), "later(or(one(1), nothing))", "or(one(1), nothing)")
        self.idles((), "later(later(one(1)))", "later(one(1))")
        self.idles((), "later(early(1, one(1)))", "early(1, one(1))")
        self.idles((1, 1), "later(one(1))", "one(1)")

    def test_what_is_left_at_an_end(self):
        self.pays((0, 0), "both(one(0), later(one(1)))", ((1, 1), (0, 1)), "both(nothing, one(1))")
        self.idles((), "later(one(0))", "one(0)", MONEY_ALONE)
        self.asks((), "early(3, one(0))", "holder", "one(0)", "later(early(3, one(0)))", MONEY_ALONE)

    def test_nested_parts(self):
        self.asks((0,), "both(one(0), give(scale(buy(1), until(less(buy(1), number(2)), "
                  "when(same(sell(1), number(2)), at(1, early(1, one(1))))))))", "giver",
                  "both(one(0), give(scale(buy(1), until(less(buy(1), number(2)), one(1)))))",
                  "both(one(0), give(scale(buy(1), until(less(buy(1), number(2)), "
                  "later(early(1, one(1)))))))")
        self.idles((0,), "give(scale(buy(1), until(less(buy(1), number(2)), later(early(1, one(1))))))",
                   "give(scale(number(3), until(less(buy(1), number(2)), early(1, one(1)))))")

    def test_each_of_two_moments_later(self):
        """What is left is faced in turn."""
        contract = contract_of("scale(sell(1), later(both(one(1), later(scale(buy(1), one(0))))))")
        kind, amounts, left = faced(DEEP, (), contract)
        self.assertEqual((kind, amounts), ("pay", ((0, 1), (0, 1))))
        kind, amounts, left = faced(DEEP, (0,), left)
        self.assertEqual((kind, amounts), ("pay", ((0, 1), (1, 1))))
        kind, amounts, left = faced(DEEP, (0, 1), left)
        self.assertEqual((kind, amounts), ("pay", ((2, 1), (0, 1))))

    def test_more_parts_left_than_the_contract_had(self):
        early = contract_of("early(0, one(0))")
        contract = early
        for _ in range(12):
            contract = ("both", early, contract)
        self.assertEqual(size_of(contract), 38)
        _, _, _, second = faced(DEEP, (), contract)
        self.assertEqual(size_of(second), 39)
        wide = ("both", contract, NOTHING)
        self.assertEqual(size_of(wide), 40)
        self.assertEqual(size_of(faced(DEEP, (), wide)[3]), 41)

    def test_contracts_that_are_none(self):
        for contract in with_good(2) + with_good(-1) + [nested("give", 20), ("at", -1, NOTHING)]:
            with self.subTest(contract=contract):
                self.assertRaises(ContractError, faced, EXAMPLE, (), contract)
                # The contract is looked at ahead of the moment.
                self.assertRaises(ContractError, faced, EXAMPLE, (2,), contract)
        self.assertEqual(faced(LINE, (), ("one", 2))[1], ((0, 1), (0, 1), (1, 1)))

    def test_contracts_whose_bad_part_is_never_entered(self):
        for inner in (("one", 2), ("early", -1, NOTHING)):
            for contract in holding(inner):
                self.assertRaises(ContractError, faced, EXAMPLE, (), contract)

    def test_moments_that_are_none(self):
        for path in ((2,), (-1,), (0, 0), (1, -1)):
            for text in ("nothing", "one(1)", "or(nothing, one(0))", "at(9, one(0))"):
                self.assertRaises(MomentError, faced, EXAMPLE, path, contract_of(text))
        self.assertRaises(MomentError, faced, (1, chain(5)), (0,) * 6, NOTHING)

    def test_errors_of_the_market_come_first(self):
        check_market_errors(self, lambda market: faced(market, (9,), ("one", 9)))


if __name__ == "__main__":
    unittest.main()
