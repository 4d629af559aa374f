"""Fractions: tuples (numerator, denominator) in lowest terms, the denominator at least 1."""

from math import gcd

from nolunch.errors import TextError, ZeroDenominator
from nolunch.integers import is_natural, write_integer

TEXT_LIMIT = 1000


def fraction(numerator, denominator):
    """Return the fraction of two integers."""
    if denominator == 0:
        raise ZeroDenominator("a fraction has no denominator 0")
    shared = gcd(numerator, denominator)
    if denominator < 0:
        shared = -shared
    return (numerator // shared, denominator // shared)


def plus(a, b):
    """Return the sum of two fractions."""
    return fraction(a[0] * b[1] + b[0] * a[1], a[1] * b[1])


def minus(a, b):
    """Return the difference of two fractions."""
    return fraction(a[0] * b[1] - b[0] * a[1], a[1] * b[1])


def times(a, b):
    """Return the product of two fractions."""
    return fraction(a[0] * b[0], a[1] * b[1])


def over(a, b):
    """Return the quotient of two fractions."""
    return fraction(a[0] * b[1], a[1] * b[0])


def compare(a, b):
    """Return -1, 0 or 1 if a fraction is less than, equal to or greater than another one."""
    left = a[0] * b[1]
    right = b[0] * a[1]
    if left < right:
        return -1
    return 1 if left > right else 0


def total(items):
    """Return the sum of some fractions."""
    result = (0, 1)
    for item in items:
        result = plus(result, item)
    return result


def dot(a, b):
    """Return the sum of the products of two rows of as many fractions."""
    return total([times(x, y) for x, y in zip(a, b)])


def added(a, b):
    """Return the row of the sums of two rows of as many fractions."""
    return tuple([plus(x, y) for x, y in zip(a, b)])


def multiplied(row, factor):
    """Return the row of the products of some fractions and a factor."""
    return tuple([times(number, factor) for number in row])


def lowest(items):
    """Return the least of some fractions."""
    best = items[0]
    for item in items:
        if compare(item, best) < 0:
            best = item
    return best


def highest(items):
    """Return the greatest of some fractions."""
    best = items[0]
    for item in items:
        if compare(item, best) > 0:
            best = item
    return best


def any_negative(row):
    """Tell whether one of some fractions is below 0."""
    return any([numerator < 0 for numerator, _ in row])


def write_fraction(a):
    """Return the text of a fraction."""
    numerator, denominator = a
    if denominator == 1:
        return write_integer(numerator)
    return write_integer(numerator) + "/" + write_integer(denominator)


def read_fraction(text):
    """Return the fraction with a text."""
    if len(text) > TEXT_LIMIT:
        raise TextError("a text of a fraction with too many characters")
    top, slash, bottom = text.partition("/")
    if not is_natural(top.removeprefix("-")) or (slash and not is_natural(bottom)):
        raise TextError("not the text of a fraction")
    numerator = int(top)
    denominator = int(bottom) if slash else 1
    # What is not written back as it stood is -0, over 1 or not in lowest terms.
    if denominator == 0 or write_fraction(fraction(numerator, denominator)) != text:
        raise TextError("a fraction that is written in another way")
    return (numerator, denominator)
