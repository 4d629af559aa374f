"""Points 801, 802 and 805: judges of hedges and of bounds."""

import random
import unittest
from fractions import Fraction

from linear import numbers, pair
from nolunch.choices import ways
from nolunch.errors import ContractError, TooLarge, WayError
from nolunch.gains import sure_gain
from nolunch.hedging import cost
from nolunch.histories import paid, whole_histories
from nolunch.judging import check_hedge, worth_of
from nolunch.markets import last_time
from nolunch.texts import read_contract
from playing import (ALL_CONTRACTS, EVEN, FAIR_MARKETS, SPREAD, STEPS, Played, either, held_at_the_end,
                     hold_bound, scaled)
from samples import (EXAMPLE, LINE, MONEY_ALONE, check_market_errors, price, star)
from test_contracts import NOTHING, nested
from test_hedging import GAIN, too_large
from test_histories import ors

# At the first moment and at the second one, the holder and then the giver choose.
BOTH = read_contract("both(or(one(0), one(1)), later(give(or(give(one(1)), give(scale(number(2), one(0)))))))")
CALL = read_contract("at(1, scale(greatest(minus(buy(1), number(2)), number(0)), one(0)))")
CALL_HEDGE = ((1, 2), (), (((), ((1, 2),)), ((0,), ((-1, 2),)), ((1,), ((-1, 2),))))


def with_amounts(trades, history, amounts):
    """Trades with others at one history."""
    changed = dict(trades)
    changed[history] = amounts
    return tuple(sorted(changed.items()))


class CheckHedge(unittest.TestCase):
    def told(self):
        for market in FAIR_MARKETS:
            for contract in ALL_CONTRACTS:
                if not too_large(market, contract, "giver"):
                    yield market, contract, cost(market, contract)

    def test_told_hedges(self):
        for market, contract, (money, hedge, _) in self.told():
            with self.subTest(contract=contract):
                self.assertIs(check_hedge(market, contract, hedge), True)
                _, way, trades = hedge
                more = pair(Fraction(*money) + Fraction(1, 7))
                self.assertIs(check_hedge(market, contract, (more, way, trades)), True)
                # No hedge begins with less.
                less = pair(Fraction(*money) - Fraction(1, 10 ** 9))
                self.assertIs(check_hedge(market, contract, (less, way, trades)), False)

    def test_trades_of_0(self):
        for market, contract, (money, (_, way, trades), _) in self.told():
            played = Played(market, contract)
            full = {history: ((0, 1),) * (market[0] - 1) for history in played.settled
                    if played.goes_with(history, "giver", way)}
            full.update(trades)
            self.assertIs(check_hedge(market, contract, (money, way, tuple(sorted(full.items())))), True)

    def test_own_hedges(self):
        self.assertIs(check_hedge(EVEN, CALL, CALL_HEDGE), True)
        self.assertIs(check_hedge(SPREAD, ("one", 1), ((2, 1), (), (((), ((1, 1),)),))), True)
        # What is held may be negative before the end.
        self.assertIs(check_hedge(EVEN, ("one", 1), ((2, 1), (), (((0,), ((1, 1),)), ((1,), ((1, 1),))))),
                      False)
        self.assertIs(check_hedge(EVEN, ("one", 1), ((3, 1), (), (((0,), ((1, 1),)), ((1,), ((1, 1),))))),
                      True)
        self.assertIs(check_hedge(EVEN, NOTHING, ((0, 1), (), ())), True)
        self.assertIs(check_hedge(EVEN, NOTHING, ((-1, 99), (), ())), False)
        self.assertIs(check_hedge(MONEY_ALONE, ("one", 0), ((1, 1), (), (((), ()),))), True)
        self.assertIs(check_hedge(MONEY_ALONE, ("one", 0), ((99, 100), (), ())), False)

    def test_prices_of_the_moment(self):
        # Bought for 2, sold for 1.
        self.assertIs(check_hedge(SPREAD, NOTHING, ((2, 1), (), (((), ((1, 1),)),))), True)
        self.assertIs(check_hedge(SPREAD, NOTHING, ((199, 100), (), (((), ((1, 1),)),))), False)
        got = ("give", ("one", 1))
        self.assertIs(check_hedge(SPREAD, got, ((-1, 1), (), (((), ((-1, 1),)),))), True)
        self.assertIs(check_hedge(SPREAD, got, ((-101, 100), (), (((), ((-1, 1),)),))), False)

    def test_something_missing_at_an_end(self):
        for money, first, second, third, safe in (((1, 2), (1, 2), (-1, 2), (-1, 2), True),
                                                  ((2, 5), (1, 2), (-1, 2), (-1, 2), False),
                                                  ((1, 2), (2, 3), (-1, 2), (-1, 2), False),
                                                  ((1, 2), (1, 2), (-1, 3), (-1, 2), False),
                                                  ((1, 2), (1, 2), (-2, 3), (-1, 2), False),
                                                  ((1, 2), (1, 2), (-1, 2), (-1, 3), False),
                                                  ((1, 2), (1, 2), (-1, 2), (-2, 3), False),
                                                  ((1, 1), (1, 2), (-1, 2), (-1, 3), True),
                                                  ((1, 1), (0, 1), (0, 1), (0, 1), True),
                                                  ((9, 10), (0, 1), (0, 1), (0, 1), False)):
            hedge = (money, (), (((), (first,)), ((0,), (second,)), ((1,), (third,))))
            with self.subTest(hedge=hedge):
                self.assertIs(check_hedge(EVEN, CALL, hedge), safe)

    def test_changed_amounts(self):
        source = random.Random(14)
        for market, contract, (money, (_, way, trades), _) in self.told():
            if not trades:
                continue
            played = Played(market, contract)
            whole = [h for h in played.whole if played.goes_with(h, "giver", way)]
            for _ in range(4):
                history, amounts = source.choice(trades)
                amounts = tuple(pair(Fraction(*a) + Fraction(source.randint(-2, 2), 3)) for a in amounts)
                changed = with_amounts(trades, history, amounts)
                more = pair(Fraction(*money) + source.choice((0, 1)))
                safe = all(number >= 0 for h in whole
                           for number in held_at_the_end(played, h, more, dict(changed)))
                self.assertIs(check_hedge(market, contract, (more, way, changed)), safe)

    def test_the_way_of_the_hedge_decides(self):
        contract = either(("one", 1), scaled(3, ("one", 0)))
        first, second = ways(SPREAD, contract, "giver")
        self.assertIs(check_hedge(SPREAD, contract, ((3, 1), second, ())), True)
        self.assertIs(check_hedge(SPREAD, contract, ((3, 1), first, ())), False)
        self.assertIs(check_hedge(SPREAD, contract, ((2, 1), first, (((0,), ((1, 1),)),))), True)
        self.assertIs(check_hedge(SPREAD, contract, ((2, 1), second, (((1,), ((1, 1),)),))), False)

    def test_each_choice_of_the_holder_counts(self):
        contract = ("or", ("one", 1), scaled(3, ("one", 0)))
        both = (((0,), ((1, 1),)),)
        self.assertIs(check_hedge(SPREAD, contract, ((3, 1), (), both)), True)
        self.assertIs(check_hedge(SPREAD, contract, ((2, 1), (), both)), False)
        self.assertIs(check_hedge(SPREAD, contract, ((3, 1), (), ())), False)

    def test_ways_that_are_none(self):
        money, (_, way, trades), _ = cost(SPREAD, BOTH)
        much = (100, 1)
        self.assertEqual(len(way), 4)
        self.assertIs(check_hedge(SPREAD, BOTH, (money, way, trades)), True)
        for wrong in ((), way[:-1], way[1:], way[::-1], way + way[-1:], (((9,), 0),) + way,
                      tuple((history, 1 - 2 * option) for history, option in way),
                      tuple((history, option + 2) for history, option in way)):
            with self.subTest(way=wrong):
                self.assertIs(check_hedge(SPREAD, BOTH, (much, wrong, ())), False)
        self.assertIs(check_hedge(SPREAD, NOTHING, (much, way, ())), False)
        # A way of the holder is none of the giver.
        holders = ways(SPREAD, ("or", NOTHING, NOTHING), "holder")[0]
        self.assertIs(check_hedge(SPREAD, ("or", NOTHING, NOTHING), (much, holders, ())), False)

    def test_histories_that_do_not_fit(self):
        way = tuple((history, 0) for history, _ in cost(SPREAD, BOTH)[1][1])
        much = (100, 1)
        zero = ((0, 1),)
        self.assertEqual([history for history, _ in way], [(0, 0), (0, 1), (1, 0), (1, 1)])
        buys = (((0, 0, 0), ((1, 1),)), ((0, 1, 0), ((1, 1),)), ((1,), ((2, 1),)))
        self.assertIs(check_hedge(SPREAD, BOTH, (much, way, buys)), True)
        for wrong in ((2,), (-1,), (0, 2), (0, 0, 0, 0), (0, 0, 2), (9,) * 9,
                      # These ask, they are not settled.
                      (), (0, 0), (0, 1), (1, 0),
                      # These do not go with the way.
                      (0, 0, 1), (1, 1, 1)):
            with self.subTest(history=wrong):
                self.assertIs(check_hedge(SPREAD, BOTH, (much, way, with_amounts(buys, wrong, zero))), False)
        for right in ((0,), (1, 0, 0), (1, 1, 0)):
            self.assertIs(check_hedge(SPREAD, BOTH, (much, way, with_amounts(buys, right, zero))), True)

    def test_histories_that_do_not_strictly_ascend(self):
        zeros = (((0, 1),),)
        for histories in (((0,), ()), ((1,), (0,)), ((), ()), ((), (0,), (0,)), ((), (1,), (0,)),
                          ((0,), (0,)), ((0,), (1,), ())):
            trades = tuple((history, *zeros) for history in histories)
            self.assertIs(check_hedge(EVEN, CALL, ((9, 1), (), trades)), False)
        for histories in ((), ((),), ((), (1,)), ((0,), (1,)), ((), (0,), (1,))):
            trades = tuple((history, *zeros) for history in histories)
            self.assertIs(check_hedge(EVEN, CALL, ((9, 1), (), trades)), True)

    def test_numbers_of_amounts(self):
        for amounts in ((), ((0, 1),) * 2, ((0, 1),) * 3):
            for history in ((), (0,), (1,)):
                self.assertIs(check_hedge(EVEN, CALL, ((9, 1), (), ((history, amounts),))), False)
        self.assertIs(check_hedge(MONEY_ALONE, NOTHING, ((0, 1), (), (((), ((0, 1),)),))), False)

    def test_other_forms(self):
        for hedge in ((), ((9, 1),), ((9, 1), ()), ((9, 1), (), (), ()), ((9, 1), (), (((),),)),
                      ((9, 1), (), (((), ((0, 1),), ()),))):
            self.assertIs(check_hedge(EVEN, CALL, hedge), False)
        self.assertIs(check_hedge(EVEN, CALL, ((9, 1), (), ())), True)

    def test_a_sure_gain_is_no_error(self):
        self.assertEqual(sure_gain(GAIN)[0], "gain")
        trades = (((), ((5, 1),)),) + tuple(((k,), ((-5, 1),)) for k in range(6))
        self.assertIs(check_hedge(GAIN, NOTHING, ((-5, 1), (), trades)), True)
        self.assertIs(check_hedge(GAIN, NOTHING, ((-6, 1), (), trades)), False)

    def test_errors(self):
        hedge = ((9, 1), (((9,), 9),), (((7,), ()),))
        check_market_errors(self, lambda market: check_hedge(market, ("one", 9), hedge))
        for contract in (("one", 2), ("at", -1, NOTHING), nested("later", 20),
                         ("both", ("one", -1), ors(19))):
            self.assertRaises(ContractError, check_hedge, EXAMPLE, contract, hedge)
        self.assertRaises(TooLarge, check_hedge, (1, star(39)), ors(6), hedge)
        self.assertRaises(TooLarge, check_hedge, (1, star(7)), ("at", 1, ("give", ors(2))), hedge)
        self.assertIs(check_hedge((1, star(7)), ("at", 1, ors(2)), ((0, 1), (), ())), True)


class WorthOf(unittest.TestCase):
    def test_told_bounds(self):
        for market in FAIR_MARKETS:
            for contract in ALL_CONTRACTS:
                if too_large(market, contract, "giver"):
                    continue
                played = Played(market, contract)
                for way, bound in cost(market, contract)[2]:
                    found = worth_of(market, contract, way, bound)
                    self.assertEqual(found, pair(hold_bound(self, played, way, bound)))

    def test_own_bounds(self):
        bound = (((0,), ((1, 2), (3, 2))), ((1,), ((1, 2), (1, 2))))
        self.assertEqual(worth_of(EVEN, CALL, (), bound), (1, 2))
        self.assertEqual(worth_of(EVEN, NOTHING, (), bound), (0, 1))
        self.assertEqual(worth_of(EVEN, ("one", 1), (), bound), (2, 1))
        self.assertEqual(worth_of(EVEN, ("give", ("one", 1)), (), bound), (-2, 1))
        self.assertEqual(worth_of(MONEY_ALONE, ("one", 0), (), (((), ((1, 1),)),)), (1, 1))
        # Weights of money that are 0 are right in a bound.
        sure = (((0,), ((1, 1), (2, 1))), ((1,), ((0, 1), (0, 1))))
        self.assertEqual(worth_of(SPREAD, CALL, (), sure), (1, 1))

    def test_fair_weights_are_bounds_where_nothing_is_asked(self):
        for market in FAIR_MARKETS + (EXAMPLE,):
            weights = sure_gain(market)[1]
            self.assertEqual(tuple(end for end, _ in weights), whole_histories(market, NOTHING))
            for contract in (NOTHING, ("one", 0), ("one", 1), ("at", last_time(market), ("one", 1))):
                worth = sum(a * b for end, row in weights
                            for a, b in zip(numbers(row), numbers(paid(market, contract, end))))
                self.assertEqual(worth_of(market, contract, (), weights), pair(worth))

    def test_bounds_that_are_not_right(self):
        right = (((0,), ((1, 2), (5, 4))), ((1,), ((1, 2), (1, 2))))
        self.assertEqual(worth_of(SPREAD, ("one", 1), (), right), (7, 4))

        def rows(a, b, c, d):
            return (((0,), (pair(a), pair(b))), ((1,), (pair(c), pair(d))))
        half = Fraction(1, 2)
        for wrong in (rows(half, 2, half, half), rows(half, half, half, half),
                      rows(half, 1, half, Fraction(3, 4)), rows(half, 1, half, Fraction(1, 4)),
                      # Not 1 in all, or negative.
                      rows(half, 1, 1, 1), rows(Fraction(1, 4), half, half, half), rows(0, 0, 0, 0),
                      rows(1, 2, 1, 1), rows(2, 4, -1, -1), rows(-1, -2, 2, 2), rows(1, 2, 0, -1),
                      # Right at the ends, but the sum is more than twice the money.
                      rows(1, 3, 0, 0), rows(Fraction(3, 4), Fraction(9, 4), Fraction(1, 4), Fraction(1, 4)),
                      rows(1, 2, 0, 1)):
            with self.subTest(bound=wrong):
                self.assertIsNone(worth_of(SPREAD, ("one", 1), (), wrong))
        for more in (rows(half, 1, half, half), rows(half, Fraction(3, 2), half, half), rows(1, 2, 0, 0),
                     rows(0, 0, 1, 1)):
            self.assertIsNotNone(worth_of(SPREAD, ("one", 1), (), more))
        # Without a spread, or with money alone, the prices do not forbid negative numbers.
        money = (1, star(2))
        self.assertEqual(worth_of(money, ("one", 0), (), (((0,), ((1, 3),)), ((1,), ((2, 3),)))), (1, 1))
        self.assertIsNone(worth_of(money, ("one", 0), (), (((0,), ((2, 1),)), ((1,), ((-1, 1),)))))
        same = (2, star(2, (price(2, 2),)))
        self.assertIsNotNone(worth_of(same, NOTHING, (), rows(1, 2, 0, 0)))
        self.assertIsNone(worth_of(same, NOTHING, (), rows(2, 4, -1, -2)))
        # A number of a good may not be below 0, though its price may be 0.
        free = (2, ((price(9, 0),), (((price(9, 0),), ()), ((price(9, 0),), ()))))
        self.assertIsNotNone(worth_of(free, NOTHING, (), rows(1, 0, 0, 0)))
        self.assertIsNone(worth_of(free, NOTHING, (), rows(half, -half, half, 1)))

    def test_settled_histories_between(self):
        """The rows fit the ends and the first moment, but not the one between."""
        first, second = Fraction(1, 2), Fraction(1, 4)
        right = (((0, 0), (pair(second), pair(9 * second))), ((0, 1), (pair(second), pair(3 * second))),
                 ((1, 0), (pair(second), pair(3 * second))), ((1, 1), (pair(second), pair(second))))
        self.assertEqual(worth_of(STEPS, ("one", 1), (), right), (4, 1))
        # 4 at the first moment, but 5 and 3 at the next ones, not 6 and 2.
        weights = (Fraction(1, 6), Fraction(1, 3), first, Fraction(0))
        wrong = tuple((end, (pair(w), pair(w * p))) for (end, _), w, p in
                      zip(right, weights, (9, 3, 3, 1)))
        self.assertEqual(sum(Fraction(*row[1]) for _, row in wrong), 4)
        self.assertIsNone(worth_of(STEPS, ("one", 1), (), wrong))

    def test_choices_of_the_holder(self):
        contract = ("or", ("one", 1), scaled(3, ("one", 0)))
        half = Fraction(1, 2)

        def bound(*shares):
            histories = ((0, 0), (0, 1), (1, 0), (1, 1))
            return tuple((history, (pair(a), pair(a * p)))
                         for history, a, p in zip(histories, shares, (2, 1, 2, 1)))
        self.assertEqual(worth_of(SPREAD, contract, (), bound(half, half, 0, 0)), (3, 2))
        self.assertEqual(worth_of(SPREAD, contract, (), bound(0, 0, half, half)), (3, 1))
        self.assertEqual(worth_of(SPREAD, contract, (), bound(half / 2, half / 2, half / 2, half / 2)), (9, 4))
        # The prices of the two together are right, but not those of each choice.
        market = (2, ((price(2, 2),), (((price(3, 3),), ()), ((price(1, 1),), ()))))
        rows = (((0, 0), ((1, 2), (3, 2))), ((0, 1), ((0, 1), (0, 1))), ((1, 0), ((0, 1), (0, 1))),
                ((1, 1), ((1, 2), (1, 2))))
        self.assertIsNone(worth_of(market, contract, (), rows))

    def test_forms_that_do_not_fit(self):
        first, second = right = (((0,), ((1, 2), (3, 2))), ((1,), ((1, 2), (1, 2))))
        self.assertIsNotNone(worth_of(EVEN, CALL, (), right))
        whole_row = ((1, 1), (2, 1))
        for wrong in ((), (first,), (second,), (second, first), (first, first), right + (second,),
                      (((), whole_row),) + right, (((), whole_row),), (((0, 0), first[1]), second),
                      (first, ((2,), second[1])), (first, ((1,), second[1] + ((0, 1),))),
                      (first, ((1,), second[1][:1])), (first, ((1,), ())),
                      tuple((history, row + ((1, 1),)) for history, row in right)):
            with self.subTest(bound=wrong):
                self.assertIsNone(worth_of(EVEN, CALL, (), wrong))

    def test_a_bound_of_another_way(self):
        contract = either(("one", 1), scaled(3, ("one", 0)))
        (first, of_first), (second, of_second) = cost(SPREAD, contract)[2]
        self.assertEqual(worth_of(SPREAD, contract, first, of_first), (2, 1))
        self.assertEqual(worth_of(SPREAD, contract, second, of_second), (3, 1))
        self.assertIsNone(worth_of(SPREAD, contract, first, of_second))
        self.assertIsNone(worth_of(SPREAD, contract, second, of_first))

    def test_ways_that_are_none(self):
        way, bound = cost(SPREAD, BOTH)[2][0]
        for wrong in ((), way[:-1], way[1:], way[::-1], way + way[-1:], (((9,), 0),),
                      tuple((history, option + 2) for history, option in way)):
            self.assertRaises(WayError, worth_of, SPREAD, BOTH, wrong, bound)
            self.assertRaises(WayError, worth_of, SPREAD, BOTH, wrong, ())
        holders = ways(SPREAD, ("or", NOTHING, NOTHING), "holder")[0]
        self.assertRaises(WayError, worth_of, SPREAD, ("or", NOTHING, NOTHING), holders, ())

    def test_markets_with_a_sure_gain_have_no_right_bound(self):
        self.assertIsNone(worth_of(GAIN, NOTHING, (), tuple(((k,), ((1, 6), (1, 3))) for k in range(6))))
        self.assertIsNone(worth_of(LINE, NOTHING, (), (((0, 0), ((1, 1), (4, 1), (1, 1))),)))

    def test_errors(self):
        way = (((9,), 9),)
        check_market_errors(self, lambda market: worth_of(market, ("one", 9), way, ()))
        for contract in (("one", 2), ("at", -1, NOTHING), nested("later", 20),
                         ("both", ("one", -1), ors(19))):
            self.assertRaises(ContractError, worth_of, EXAMPLE, contract, way, ())
        self.assertRaises(TooLarge, worth_of, (1, star(39)), ors(6), way, ())
        self.assertRaises(TooLarge, worth_of, (1, star(7)), ("at", 1, ("give", ors(2))), way, ())
        self.assertRaises(WayError, worth_of, (1, star(7)), ("at", 1, ors(2)), way, ())


if __name__ == "__main__":
    unittest.main()
