"""Part 14: grown markets."""

import random
import unittest
from fractions import Fraction
from itertools import product

from linear import numbers, pair
from nolunch.errors import MarketError, TooLarge
from nolunch.gains import sure_gain
from nolunch.growing import grown
from nolunch.markets import check_market, last_time, moments, nexts, price_of
from nolunch.programs import best_of
from samples import is_plain

HALF = (1, 2)
UP_AND_DOWN = (((2, 1),), ((1, 2),))


def moved(*rows):
    return tuple(tuple(pair(number) for number in row) for row in rows)


class Grown(unittest.TestCase):
    def hold(self, prices, moves, last, spread):
        market = grown(prices, moves, last, spread)
        self.assertTrue(is_plain(market))
        check_market(market)
        self.assertEqual((market[0], last_time(market)), (len(prices) + 1, last))
        some = [path for time in range(last + 1) for path in product(range(len(moves)), repeat=time)]
        self.assertEqual(moments(market), tuple(sorted(some)))
        for path in some:
            self.assertEqual(nexts(market, path), len(moves) if len(path) < last else 0)
            for good, first in enumerate(numbers(prices), 1):
                worth = first
                for index in path:
                    worth *= Fraction(*moves[index][good - 1])
                s = Fraction(*spread)
                self.assertEqual(price_of(market, path, good), (pair(worth * (1 + s)), pair(worth * (1 - s))))

    def test_all_sizes(self):
        source = random.Random(50)
        told = 0
        for many_goods, many_moves, last in product(range(4), range(4), range(6)):
            prices = tuple(pair(Fraction(source.randint(0, 7), source.randint(1, 3))) for _ in range(many_goods))
            moves = tuple(tuple(pair(Fraction(source.randint(1, 7), source.randint(1, 3))) for _ in prices)
                          for _ in range(many_moves))
            for spread in ((0, 1), (1, 100), (99, 100), (2, 3)):
                with self.subTest(goods=many_goods, moves=many_moves, last=last):
                    if last > 0 and many_moves == 0:
                        self.assertRaises(MarketError, grown, prices, moves, last, spread)
                    elif sum(many_moves ** time for time in range(last + 1)) > 40:
                        self.assertRaises(TooLarge, grown, prices, moves, last, spread)
                    else:
                        self.hold(prices, moves, last, spread)
                        told += 1
        self.assertGreater(told, 150)

    def test_known_ones(self):
        self.assertEqual(grown((), (), 0, (0, 1)), (1, ((), ())))
        self.assertEqual(grown((), ((), ()), 1, (0, 1)), (1, ((), (((), ()), ((), ())))))
        self.assertEqual(grown(((4, 1),), UP_AND_DOWN, 1, HALF),
                         (2, ((((6, 1), (2, 1)),), (((((12, 1), (4, 1)),), ()), ((((3, 1), (1, 1)),), ())))))
        self.assertEqual(grown(((4, 1), (0, 1)), moved((1, 5)), 1, (0, 1)),
                         (3, ((((4, 1), (4, 1)), ((0, 1), (0, 1))), (((((4, 1), (4, 1)), ((0, 1), (0, 1))), ()),))))
        # Moves are not used at the time 0, however many there are.
        self.assertEqual(grown(((3, 1),), UP_AND_DOWN * 100, 0, (0, 1)), (2, ((((3, 1), (3, 1)),), ())))

    def test_40_moments_and_41(self):
        self.hold(((1, 1),), moved(*[[k] for k in range(1, 40)]), 1, (0, 1))
        self.hold(((1, 1),), moved((1,), (2,), (3,)), 3, (1, 9))
        self.hold(((1, 1),) * 3, moved((1, 2, 3), (2, 2, 2)), 4, (1, 9))
        for moves, last in ((40, 1), (6, 2), (4, 3), (3, 4), (2, 5), (1000, 5)):
            rows = moved(*[[k + 1] for k in range(moves)])
            self.assertRaises(TooLarge, grown, ((1, 1),), rows, last, (0, 1))


class Errors(unittest.TestCase):
    def check(self, prices, moves, last, spread):
        with self.subTest(prices=prices, moves=moves[:4], last=last, spread=spread):
            self.assertRaises(MarketError, grown, prices, moves, last, spread)

    def test_each_cause(self):
        one = ((3, 1),)
        self.check(((1, 1),) * 4, moved((1, 1, 1, 1)), 1, (0, 1))
        self.check(((1, 1),) * 4, (), 0, (0, 1))
        self.check(((-1, 9),), UP_AND_DOWN, 1, (0, 1))
        self.check(((1, 1), (-1, 1)), moved((1, 1)), 1, (0, 1))
        for moves in (((),), moved((1, 2)), moved((1,), (1, 1)), UP_AND_DOWN + ((),), moved((0,)), moved((2,), (-1,)),
                      moved((1,), (1,), (0,)), moved((Fraction(-1, 100),))):
            self.check(one, moves, 1, (0, 1))
            self.check(one, moves, 0, (0, 1))
        self.check((), moved((1,)), 1, (0, 1))
        self.check(((1, 1), (0, 1)), moved((1, 1), (2, 0)), 1, (0, 1))
        for last in (-1, 6, 100, -5):
            self.check(one, UP_AND_DOWN, last, (0, 1))
            self.check(one, (), last, (0, 1))
            self.check((), ((),), last, (0, 1))
        for last in (1, 5):
            self.check(one, (), last, (0, 1))
            self.check((), (), last, (0, 1))
        for spread in ((-1, 100), (-1, 1), (1, 1), (101, 100), (7, 1)):
            self.check(one, UP_AND_DOWN, 1, spread)
            self.check((), (), 0, spread)

    def test_too_large_comes_behind_them(self):
        many = UP_AND_DOWN * 20
        self.assertRaises(TooLarge, grown, ((1, 1),), many, 1, (0, 1))
        self.check(((1, 1),), many, 1, (1, 1))
        self.check(((-1, 1),), many, 1, (0, 1))
        self.check(((1, 1),), many + ((),), 1, (0, 1))
        self.check(((1, 1),), many + moved((0,)), 2, (0, 1))
        self.check(((1, 1),), many, 6, (0, 1))
        self.check(((1, 1),) * 4, many, 1, (0, 1))


def has_mean_one(prices, moves):
    """Whether positive weights give each good whose first price is above 0 moves of the mean 1."""
    goods = [k for k, number in enumerate(prices) if number[0] > 0]
    many = len(moves)
    rows = []
    for k in goods:
        # The weights add up to 1; the last variable is what each of them is at least.
        row = [Fraction(*move[k]) - 1 for move in moves] + [Fraction(0)]
        rows += [(row, Fraction(0)), ([-number for number in row], Fraction(0))]
    rows += [([Fraction(1)] * many + [Fraction(0)], Fraction(1))]
    rows += [([Fraction(-int(j == k)) for j in range(many)] + [Fraction(1)], Fraction(0)) for k in range(many)]
    gains = (((0, 1),) * many) + ((1, 1),)
    told = best_of((gains, tuple((tuple(pair(number) for number in row), pair(bound)) for row, bound in rows)))
    return told[1][-1][0] > 0


class SureGains(unittest.TestCase):
    """Point 1402."""

    def check(self, prices, moves, last):
        kind, _ = sure_gain(grown(prices, moves, last, (0, 1)))
        expected = last == 0 or has_mean_one(prices, moves)
        with self.subTest(prices=prices, moves=moves, last=last):
            self.assertEqual(kind, "fair" if expected else "gain")
        return kind

    def test_one_good(self):
        kinds = []
        for rows in (((1,),), ((2,),), ((Fraction(1, 2),),), ((1,), (1,)), ((1,), (2,)), ((2,), (Fraction(1, 2),)),
                     ((1,), (Fraction(9, 10),)), ((2,), (3,)), ((Fraction(1, 2),), (1,), (2,))):
            for last in range(4):
                if sum(len(rows) ** time for time in range(last + 1)) <= 40:
                    kinds.append(self.check(((5, 2),), moved(*rows), last))
                    self.assertEqual(self.check(((0, 1),), moved(*rows), last), "fair")
        self.assertEqual(set(kinds), {"fair", "gain"})

    def test_known_ones(self):
        self.assertEqual(self.check(((1, 1),), UP_AND_DOWN, 4), "fair")
        self.assertEqual(self.check(((1, 1), (1, 1)), moved((2, 2), (Fraction(1, 2), Fraction(1, 2))), 2), "fair")
        # Both go up and down together, but one of them by more.
        self.assertEqual(self.check(((1, 1), (1, 1)), moved((2, 3), (Fraction(1, 2), Fraction(1, 2))), 2), "gain")
        self.assertEqual(self.check(((1, 1), (0, 1)), moved((2, 3), (Fraction(1, 2), Fraction(1, 2))), 2), "fair")

    def test_several_goods(self):
        source = random.Random(51)
        kinds = []
        factors = (Fraction(1, 2), Fraction(2, 3), 1, 1, Fraction(3, 2), 2)
        for _ in range(120):
            goods = source.randint(1, 3)
            prices = tuple(pair(source.choice((0, 1, 1, Fraction(7, 2)))) for _ in range(goods))
            moves = moved(*[[source.choice(factors) for _ in prices] for _ in range(source.randint(1, 4))])
            last = source.randint(0, 2)
            kinds.append(self.check(prices, moves, last))
        self.assertGreater(min(kinds.count("fair"), kinds.count("gain")), 20)


if __name__ == "__main__":
    unittest.main()
