"""Point 303: check_result."""

import random
import unittest
from fractions import Fraction

from linear import program
from nolunch.errors import ProgramError, TooLarge
from nolunch.programs import best_of
from nolunch.proving import check_result

BEST = program([3, 5], [1, 0, 4], [0, 2, 12], [3, 2, 18])
NONE = program([1, 1], [1, 1, 2], [-1, -2, -5])
ENDLESS = program([1, 0], [-1, -1, -4], [0, 1, 2], [0, 0, 1])
# The only corner of a program with a bound below 0, and one without any freedom.
FIXED = program([2, 1], [1, 1, 4], [-1, -1, -4], [1, 0, 3])

BEST_RESULT = ("best", ((2, 1), (6, 1)), ((0, 1), (3, 2), (1, 1)))
NONE_RESULT = ("none", ((2, 1), (1, 1)))
ENDLESS_RESULT = ("endless", ((4, 1), (0, 1)), ((1, 1), (0, 1)))


def changed(result, part, place, number):
    """A result with another number at a place of a part."""
    parts = [list(each) if k else each for k, each in enumerate(result)]
    parts[part][place] = number
    return tuple(tuple(each) if k else each for k, each in enumerate(parts))


def with_part(result, part, value):
    return result[:part] + (value,) + result[part + 1:]


class TrueResults(unittest.TestCase):
    def test_results_by_hand(self):
        self.assertIs(check_result(BEST, BEST_RESULT), True)
        self.assertIs(check_result(NONE, NONE_RESULT), True)
        self.assertIs(check_result(ENDLESS, ENDLESS_RESULT), True)

    def test_other_true_ones(self):
        self.assertIs(check_result(NONE, ("none", ((9, 4), (1, 1)))), True)
        self.assertIs(check_result(ENDLESS, ("endless", ((2, 1), (2, 1)), ((7, 3), (0, 1)))), True)
        self.assertIs(check_result(program([]), ("best", (), ())), True)
        self.assertIs(check_result(program([], [-1]), ("none", ((1, 5),))), True)
        self.assertIs(check_result(program([1]), ("endless", ((0, 1),), ((1, 9),))), True)

    def test_results_of_best_of(self):
        source = random.Random(2)
        for told in (BEST, NONE, ENDLESS, FIXED, program([]), program([1]), program([], [-1])):
            self.assertIs(check_result(told, best_of(told)), True)
        for _ in range(300):
            variables, rows = source.randint(0, 5), source.randint(0, 6)
            told = program([source.randint(-3, 3) for _ in range(variables)],
                           *[[Fraction(source.randint(-3, 4), source.randint(1, 4))
                              for _ in range(variables)] + [source.randint(-3, 4)]
                             for _ in range(rows)])
            self.assertIs(check_result(told, best_of(told)), True)


class FalseResults(unittest.TestCase):
    def check_false(self, told, result):
        with self.subTest(result=result):
            self.assertIs(check_result(told, result), False)

    def test_best_with_a_changed_number(self):
        for number in ((1, 1), (3, 1), (0, 1), (201, 100)):
            self.check_false(BEST, changed(BEST_RESULT, 1, 0, number))
            self.check_false(BEST, changed(BEST_RESULT, 1, 1, number))
        for place, number in ((0, (1, 1)), (0, (1, 1000)), (1, (0, 1)), (1, (149, 100)),
                              (1, (151, 100)), (2, (0, 1)), (2, (99, 100)), (2, (2, 1))):
            self.check_false(BEST, changed(BEST_RESULT, 2, place, number))

    def test_best_with_a_point_that_does_not_keep_the_program(self):
        # The gain is that of the weights, and it is 36 as well.
        self.check_false(BEST, ("best", ((12, 1), (0, 1)), BEST_RESULT[2]))
        self.check_false(BEST, ("best", ((0, 1), (36, 5)), BEST_RESULT[2]))

    def test_best_with_weights_below_a_gain(self):
        # 12 times 3 is 36 too, but a unit of the first variable gains 3.
        self.check_false(BEST, ("best", BEST_RESULT[1], ((0, 1), (3, 1), (0, 1))))
        self.check_false(BEST, ("best", BEST_RESULT[1], ((9, 1), (0, 1), (0, 1))))

    def test_best_with_a_kept_point_that_is_not_best(self):
        self.check_false(BEST, ("best", ((0, 1), (0, 1)), BEST_RESULT[2]))
        self.check_false(BEST, ("best", ((4, 1), (3, 1)), BEST_RESULT[2]))
        self.check_false(BEST, ("best", ((0, 1), (0, 1)), ((0, 1), (0, 1), (0, 1))))

    def test_numbers_below_0(self):
        told = program([1, -1], [1, -1, 0], [1, 1, 4])
        self.assertIs(check_result(told, ("best", ((0, 1), (0, 1)), ((1, 1), (0, 1)))), True)
        self.check_false(told, ("best", ((-1, 1), (-1, 1)), ((1, 1), (0, 1))))
        self.check_false(BEST, changed(BEST_RESULT, 1, 0, (-2, 1)))
        self.check_false(BEST, changed(BEST_RESULT, 2, 0, (-1, 1)))
        same = program([1], [1, 1], [1, 1])
        self.assertIs(check_result(same, ("best", ((1, 1),), ((1, 2), (1, 2)))), True)
        self.check_false(same, ("best", ((1, 1),), ((2, 1), (-1, 1))))
        twice = program([1], [1, -1], [1, -1])
        self.assertIs(check_result(twice, ("none", ((1, 1), (0, 1)))), True)
        self.check_false(twice, ("none", ((2, 1), (-1, 1))))
        free = program([1, -1], [0, 0, 5])
        self.assertIs(check_result(free, ("endless", ((0, 1), (0, 1)), ((1, 1), (0, 1)))), True)
        self.check_false(free, ("endless", ((0, 1), (0, 1)), ((0, 1), (-1, 1))))
        self.check_false(free, ("endless", ((-1, 1), (0, 1)), ((1, 1), (0, 1))))

    def test_none_with_a_changed_number(self):
        for place, number in ((0, (0, 1)), (0, (1, 1)), (0, (5, 2)), (0, (3, 1)),
                              (1, (0, 1)), (1, (4, 5)), (1, (3, 1))):
            self.check_false(NONE, changed(NONE_RESULT, 1, place, number))
        self.check_false(NONE, ("none", ((0, 1), (0, 1))))
        self.check_false(NONE, ("none", ((5, 2), (3, 2))))
        # The bounds make 0, not less; the factors make less than 0.
        self.check_false(program([1], [1, 0]), ("none", ((1, 1),)))
        self.check_false(program([1], [-1, -1]), ("none", ((1, 1),)))

    def test_endless_with_a_changed_number(self):
        self.check_false(ENDLESS, changed(ENDLESS_RESULT, 1, 0, (3, 1)))
        self.check_false(ENDLESS, changed(ENDLESS_RESULT, 1, 1, (3, 1)))
        self.check_false(ENDLESS, changed(ENDLESS_RESULT, 2, 0, (0, 1)))
        self.check_false(ENDLESS, changed(ENDLESS_RESULT, 2, 1, (1, 1)))
        self.check_false(ENDLESS, changed(ENDLESS_RESULT, 2, 1, (1, 1000)))
        # A way that gains nothing, or loses.
        self.check_false(program([0, 1], [0, 1, 1]), ("endless", ((0, 1),) * 2, ((1, 1), (0, 1))))
        self.check_false(program([-1, 1], [0, 1, 1]), ("endless", ((0, 1),) * 2, ((1, 1), (0, 1))))

    def test_lengths(self):
        for told, result in ((BEST, BEST_RESULT), (NONE, NONE_RESULT), (ENDLESS, ENDLESS_RESULT)):
            for part in range(1, len(result)):
                self.check_false(told, with_part(result, part, result[part] + ((0, 1),)))
                self.check_false(told, with_part(result, part, result[part][:-1]))
                self.check_false(told, with_part(result, part, ()))
            self.check_false(told, result + ((),))
            self.check_false(told, result + (result[1],))
            self.check_false(told, result[:-1])
            self.check_false(told, result[:1])

    def test_a_missing_number_of_0(self):
        self.check_false(BEST, ("best", ((2, 1), (6, 1)), ((3, 2), (1, 1))))
        told = program([1, 0], [1, 1, 2])
        self.assertIs(check_result(told, ("best", ((2, 1), (0, 1)), ((1, 1),))), True)
        self.check_false(told, ("best", ((2, 1),), ((1, 1),)))

    def test_kinds(self):
        results = (BEST_RESULT, NONE_RESULT, ENDLESS_RESULT)
        for told, own in ((BEST, BEST_RESULT), (NONE, NONE_RESULT), (ENDLESS, ENDLESS_RESULT)):
            for result in results:
                if result != own:
                    self.check_false(told, result)
                    self.check_false(told, (result[0],) + own[1:])
            for word in ("", "Best", "worst", "point", "best ", "nones"):
                self.check_false(told, (word,) + own[1:])
                self.check_false(told, (word,))
        square = program([1, 1], [1, 0, 1], [0, 1, 1])
        self.check_false(square, ("endless",) + best_of(square)[1:])

    def test_errors_of_the_program_come_first(self):
        self.assertRaises(ProgramError, check_result, program([1, 2], [1, 2]), ("x",))
        self.assertRaises(ProgramError, check_result, program([1], [1, 2, 3]), BEST_RESULT)
        self.assertRaises(TooLarge, check_result, program([0] * 201), ("best", ((0, 1),) * 201, ()))
        self.assertRaises(TooLarge, check_result, program([], *[[1]] * 121), ("x",))


if __name__ == "__main__":
    unittest.main()
