"""Linear programs for tests, and an own judge of results."""

from fractions import Fraction


def pair(value):
    value = Fraction(value)
    return (value.numerator, value.denominator)


def program(gains, *rows):
    """A program of plain numbers: each row is a list of factors and, last, a bound."""
    return (tuple(pair(gain) for gain in gains),
            tuple((tuple(pair(number) for number in row[:-1]), pair(row[-1])) for row in rows))


def numbers(items):
    return [Fraction(*item) for item in items]


def product(a, b):
    return sum((x * y for x, y in zip(a, b)), Fraction(0))


def plain(told):
    gains, rows = told
    return numbers(gains), [numbers(factors) for factors, _ in rows], [Fraction(*b) for _, b in rows]


def in_lowest_terms(item):
    return type(item) is tuple and len(item) == 2 and pair(Fraction(*item)) == item


def keeps(told, point):
    """Whether a point of Fractions keeps a program."""
    _, factors, bounds = plain(told)
    return (all(number >= 0 for number in point)
            and all(product(row, point) <= bound for row, bound in zip(factors, bounds)))


def hold_result(test, told, result):
    """Hold a result against every sentence of point 302."""
    gains, factors, bounds = plain(told)
    test.assertIs(type(result), tuple)
    for part in result[1:]:
        test.assertIs(type(part), tuple)
        for item in part:
            test.assertTrue(in_lowest_terms(item), item)
            test.assertGreaterEqual(item[0], 0)
    kind = result[0]
    parts = [numbers(part) for part in result[1:]]
    lengths = {"best": [len(gains), len(bounds)], "none": [len(bounds)],
               "endless": [len(gains), len(gains)]}
    test.assertEqual([len(part) for part in parts], lengths[kind])
    columns = [[row[k] for row in factors] for k in range(len(gains))]
    if kind == "best":
        point, weights = parts
        test.assertTrue(keeps(told, point))
        for column, gain in zip(columns, gains):
            test.assertGreaterEqual(product(weights, column), gain)
        test.assertEqual(product(weights, bounds), product(gains, point))
    elif kind == "none":
        weights = parts[0]
        for column in columns:
            test.assertGreaterEqual(product(weights, column), 0)
        test.assertLess(product(weights, bounds), 0)
    else:
        point, way = parts
        test.assertTrue(keeps(told, point))
        for row in factors:
            test.assertLessEqual(product(row, way), 0)
        test.assertGreater(product(gains, way), 0)


def corners(told):
    """All points at which as many rows and variables are tight as there are variables, kept ones."""
    from itertools import combinations
    gains, factors, bounds = plain(told)
    many = len(gains)
    walls = list(zip(factors, bounds))
    walls += [([Fraction(-int(j == k)) for j in range(many)], Fraction(0)) for k in range(many)]
    found = []
    for chosen in combinations(walls, many):
        point = crossing([list(row) + [bound] for row, bound in chosen], many)
        if point is not None and keeps(told, point):
            found.append(point)
    return found


def crossing(rows, many):
    """The only point that solves as many equations as there are variables, or None."""
    for k in range(many):
        pivot = next((row for row in rows[k:] if row[k] != 0), None)
        if pivot is None:
            return None
        rows.remove(pivot)
        rows.insert(k, pivot)
        rows[k] = [number / pivot[k] for number in pivot]
        for j in range(many):
            if j != k:
                rows[j] = [a - rows[j][k] * b for a, b in zip(rows[j], rows[k])]
    return [row[many] for row in rows]
