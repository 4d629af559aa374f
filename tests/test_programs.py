"""Points 301 and 302: linear programs and their best points."""

import random
import unittest
from fractions import Fraction

from linear import corners, hold_result, numbers, plain, product, program
from nolunch.errors import ProgramError, TooLarge
from nolunch.programs import best_of, check_program


def sized(variables, rows, short=None):
    """A program of zeros; in the row `short` a factor is missing."""
    gains = ((0, 1),) * variables
    return (gains, tuple((gains[1:] if k == short else gains, (1, 1)) for k in range(rows)))


class Checking(unittest.TestCase):
    def check_raised(self, error, told):
        self.assertRaises(error, check_program, told)
        self.assertRaises(error, best_of, told)

    def test_programs_are_accepted(self):
        for told in (program([]), program([1]), program([], [1]), program([1, 2], [1, 2, 3]),
                     sized(200, 120), sized(200, 0), sized(0, 120)):
            self.assertIsNone(check_program(told))

    def test_numbers_of_factors(self):
        self.check_raised(ProgramError, program([1, 2], [1, 2]))
        self.check_raised(ProgramError, program([1, 2], [1, 2, 3, 4]))
        self.check_raised(ProgramError, program([1, 2], [1, 2, 3], [1, 2, 3], [1, 3]))
        self.check_raised(ProgramError, program([], [1, 2]))
        self.check_raised(ProgramError, program([1], [2]))

    def test_limits(self):
        self.check_raised(TooLarge, sized(201, 1))
        self.check_raised(TooLarge, sized(201, 0))
        self.check_raised(TooLarge, sized(1, 121))
        self.check_raised(TooLarge, sized(0, 121))
        self.check_raised(TooLarge, sized(201, 121))

    def test_program_error_ahead_of_too_large(self):
        self.check_raised(ProgramError, sized(201, 3, 2))
        self.check_raised(ProgramError, sized(3, 125, 124))
        self.check_raised(ProgramError, sized(3, 125, 0))

    def test_programs_at_the_limits_have_results(self):
        for told in (sized(200, 120), sized(200, 0), sized(0, 120)):
            hold_result(self, told, best_of(told))


class Results(unittest.TestCase):
    def check_kind(self, kind, told, gain=None):
        result = best_of(told)
        self.assertEqual(result[0], kind, told)
        hold_result(self, told, result)
        if gain is not None:
            self.assertEqual(product(plain(told)[0], numbers(result[1])), gain)
        return result

    def test_example(self):
        told = (((1, 1), (1, 1)), ((((2, 1), (1, 1)), (4, 1)), (((1, 1), (3, 1)), (6, 1))))
        self.assertEqual(best_of(told)[1], ((6, 5), (8, 5)))
        self.check_kind("best", told, Fraction(14, 5))

    def test_best_points(self):
        self.check_kind("best", program([3, 5], [1, 0, 4], [0, 2, 12], [3, 2, 18]), 36)
        self.check_kind("best", program([1], [1, 7]), 7)
        self.check_kind("best", program([-1], [1, 7]), 0)
        self.check_kind("best", program([0, 0], [1, 1, 3]), 0)
        self.check_kind("best", program([Fraction(1, 3), Fraction(2, 7)],
                                        [Fraction(1, 2), 1, Fraction(5, 3)], [1, Fraction(1, 9), 2]))

    def test_bounds_below_0(self):
        self.check_kind("best", program([-1], [-1, -3]), -3)
        self.check_kind("best", program([-2, -3], [-1, -1, -4], [-1, -2, -6]), -10)
        self.check_kind("best", program([1, 1], [-1, -1, -1], [1, 2, 4], [2, 1, 4]), Fraction(8, 3))
        self.check_kind("best", program([1, -1], [1, 0, 5], [-1, 0, -5], [0, -1, -2]), 3)

    def test_bounds_of_0(self):
        self.check_kind("best", program([1, 1], [1, 0, 0], [0, 1, 0]), 0)
        self.check_kind("best", program([1, -1], [1, -1, 0]), 0)
        self.check_kind("best", program([1, 1], [1, -1, 0], [-1, 1, 0], [1, 1, 2]), 2)

    def test_no_point(self):
        self.check_kind("none", program([1], [1, -1]))
        self.check_kind("none", program([1], [1, 2], [-1, -3]))
        self.check_kind("none", program([1, 1], [1, 1, 2], [-1, -2, -5]))
        self.check_kind("none", program([5, 7], [1, 1, 3], [-1, 0, -2], [0, -1, -2]))
        self.check_kind("none", program([1, 1], [0, 0, -1]))
        self.check_kind("none", program([0], [0, 5], [0, Fraction(-1, 100)], [0, 3]))

    def test_endless_gains(self):
        self.check_kind("endless", program([1], [-1, 0]))
        self.check_kind("endless", program([1, 1], [1, -1, 3]))
        self.check_kind("endless", program([0, 1], [1, 0, 3]))
        self.check_kind("endless", program([1, 0], [-1, -1, -4], [0, 1, 2]))
        self.check_kind("endless", program([2, -1], [1, -2, 0], [-1, 1, -1]))

    def test_without_variables(self):
        self.assertEqual(best_of(program([])), ("best", (), ()))
        self.assertEqual(best_of(program([], [0], [3])), ("best", (), ((0, 1), (0, 1))))
        result = self.check_kind("none", program([], [0], [-2], [3]))
        self.assertEqual((result[1][0], result[1][2]), ((0, 1), (0, 1)))
        self.check_kind("none", program([], [-2], [-3], [0]))

    def test_without_rows(self):
        self.assertEqual(best_of(program([0, -1])), ("best", ((0, 1), (0, 1)), ()))
        self.check_kind("endless", program([-1, 2, 0]))

    def test_rows_of_zeros(self):
        self.check_kind("best", program([1, 1], [0, 0, 0], [1, 1, 2], [0, 0, 5]), 2)
        self.check_kind("endless", program([1, 1], [0, 0, 0], [0, 0, 1]))
        self.check_kind("none", program([1, 1], [0, 0, 1], [0, 0, -1]))

    def test_equal_and_opposite_rows(self):
        self.check_kind("best", program([2, 1], [1, 1, 4], [1, 1, 4], [1, 1, 4], [2, 2, 8]), 8)
        self.check_kind("best", program([2, 1], [1, 1, 4], [-1, -1, -4], [1, 0, 3], [1, 0, 3]), 7)
        self.check_kind("best", program([1, 2, 3], [1, 1, 1, 0], [-1, -1, -1, 0]), 0)
        self.check_kind("endless", program([1, 1], [1, -1, 2], [-1, 1, -2]))
        self.check_kind("none", program([1, 1], [1, 1, 2], [-1, -1, -3]))

    def test_several_rows_tight_at_the_best_point(self):
        self.check_kind("best", program([1, 1], [1, 0, 1], [0, 1, 1], [1, 1, 2], [2, 1, 3], [1, 2, 3]),
                        2)

    def test_programs_that_go_in_circles_with_simple_rules(self):
        self.check_kind("best", program(
            [Fraction(3, 4), -150, Fraction(1, 50), -6],
            [Fraction(1, 4), -60, Fraction(-1, 25), 9, 0],
            [Fraction(1, 2), -90, Fraction(-1, 50), 3, 0],
            [0, 0, 1, 0, 1]), Fraction(1, 20))
        self.check_kind("best", program(
            [10, -57, -9, -24],
            [Fraction(1, 2), Fraction(-11, 2), Fraction(-5, 2), 9, 0],
            [Fraction(1, 2), Fraction(-3, 2), Fraction(-1, 2), 1, 0],
            [1, 0, 0, 0, 1]), 1)
        self.check_kind("best", program(
            [1, -2, 1, 0], [2, -1, 1, -1, 0], [3, 1, -5, 0, 0], [-2, 3, 0, 1, 0]), 0)
        self.check_kind("endless", program(
            [Fraction(23, 10), Fraction(43, 20), Fraction(-271, 20), Fraction(-2, 5)],
            [Fraction(2, 5), Fraction(1, 5), Fraction(-7, 5), Fraction(-1, 5), 0],
            [Fraction(-39, 5), Fraction(-7, 5), Fraction(39, 5), Fraction(2, 5), 0]))

    def test_many_rows_tight_at_one_point(self):
        source = random.Random(11)
        for bound, high in ((0, 3), (0, 1), (1, 1)):
            rows = [[source.randint(-1, high) for _ in range(30)] for _ in range(40)]
            told = program([source.randint(-1, 3) for _ in range(30)],
                           *[row + [bound * sum(row)] for row in rows])
            hold_result(self, told, best_of(told))

    def test_handing_out_with_equalities(self):
        # Ten to ten, once each: every corner has far more tight rows than variables.
        side = 10
        rows = []
        for k in range(side):
            for row in ([int(j // side == k) for j in range(side * side)],
                        [int(j % side == k) for j in range(side * side)]):
                rows += [row + [1], [-number for number in row] + [-1]]
        gains = [(j * j * 7 + j * 3) % 19 for j in range(side * side)]
        point = self.check_kind("best", program(gains, *rows))[1]
        self.assertEqual(sum(numbers(point)), side)

    def test_small_programs_against_all_corners(self):
        source = random.Random(4)
        kinds = {"best": 0, "none": 0, "endless": 0}
        for turn in range(600):
            variables, rows = source.randint(0, 3), source.randint(0, 4)
            low, high = source.choice(((-1, 1), (-2, 3), (0, 2), (-5, 5)))
            told = program([source.randint(low, high) for _ in range(variables)],
                           *[[Fraction(source.randint(low, high), source.randint(1, 3))
                              for _ in range(variables)] + [source.randint(-2, 3)]
                             for _ in range(rows)])
            result = best_of(told)
            hold_result(self, told, result)
            kinds[result[0]] += 1
            found = corners(told)
            self.assertEqual(result[0] == "none", found == [])
            if result[0] == "best":
                gains = plain(told)[0]
                self.assertEqual(max(product(gains, corner) for corner in found),
                                 product(gains, numbers(result[1])))
        self.assertTrue(all(many > 50 for many in kinds.values()), kinds)

    def test_large_programs(self):
        source = random.Random(8)
        rows = [[source.choice((-1, 0, 0, 0, 0, 1, 2)) for _ in range(120)] for _ in range(80)]
        start = [source.randint(0, 1) for _ in range(120)]
        told = program([source.randint(-4, 2) for _ in range(120)],
                       *[row + [product(row, start)] for row in rows])
        hold_result(self, told, best_of(told))

    def test_long_numbers(self):
        big = 10 ** 60
        self.check_kind("best", program([Fraction(1, big), big + 1], [big, Fraction(1, big + 3), 1],
                                        [-1, Fraction(big, 7), big]))


if __name__ == "__main__":
    unittest.main()
