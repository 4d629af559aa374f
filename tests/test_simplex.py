"""Programs of any size, and rows that stay tight together."""

import random
import unittest
from fractions import Fraction

from linear import hold_result, pair, program
from nolunch.programs import best_of
from nolunch.simplex import greatest_gains, solved


class AnySize(unittest.TestCase):
    def test_beyond_the_limits_of_programs(self):
        for variables, rows in ((201, 2), (2, 121), (260, 150)):
            for bound in (1, -1):
                told = program([1 + k % 3 for k in range(variables)],
                               *[[bound * int(k % rows == row or row % variables == k)
                                  for k in range(variables)] + [bound] for row in range(rows)])
                hold_result(self, told, solved(told))


class TiedRows(unittest.TestCase):
    def test_rows_that_stay_tight_when_their_bounds_are_nudged(self):
        # Each row times the size of its nudge: the nudges of its kind are tied as well.
        source = random.Random(5)
        for turn in range(200):
            variables, rows = source.randint(1, 6), source.randint(2, 8)
            kinds = [[source.randint(-2, 2) for _ in range(variables)] for _ in range(2)]
            told = program(
                [source.randint(-1, 2) for _ in range(variables)],
                *[[(row * 7919 % 1009 + 1) * number for number in source.choice(kinds)] + [0]
                  for row in range(rows)])
            hold_result(self, told, solved(told))

    def test_the_same_with_bounds_below_0(self):
        source = random.Random(7)
        for turn in range(200):
            variables, rows = source.randint(1, 5), source.randint(2, 8)
            kinds = [[source.randint(-2, 2) for _ in range(variables)] + [source.randint(-1, 0)]
                     for _ in range(3)]
            told = program(
                [Fraction(source.randint(-2, 2), 3) for _ in range(variables)],
                *[[(row * 7919 % 1009 + 1) * number for number in source.choice(kinds)]
                  for row in range(rows)])
            hold_result(self, told, solved(told))


class SeveralGoals(unittest.TestCase):
    def test_each_goal_is_as_if_it_was_alone(self):
        source = random.Random(9)
        for turn in range(150):
            variables, rows = source.randint(1, 6), source.randint(1, 7)
            # The last row lets nothing grow without end.
            told = [[Fraction(source.randint(-3, 3), source.randint(1, 3)) for _ in range(variables)]
                    + [Fraction(source.choice((0, 0, 1, 5)))] for _ in range(rows)]
            told.append([Fraction(1, 2)] * variables + [Fraction(source.randint(0, 3))])
            goals = [[Fraction(source.randint(-4, 4), source.randint(1, 4)) for _ in range(variables)]
                     for _ in range(source.randint(0, 5))]
            _, some = program([0] * variables, *told)
            found = greatest_gains(list(some), [tuple(pair(number) for number in goal) for goal in goals])
            self.assertEqual(len(found), len(goals))
            for goal, gain in zip(goals, found):
                _, point, _ = best_of(program(goal, *told))
                self.assertEqual(pair(sum(a * Fraction(*b) for a, b in zip(goal, point))), gain)


if __name__ == "__main__":
    unittest.main()
