"""Linear programs and their best points."""

from nolunch.errors import ProgramError, TooLarge
from nolunch.simplex import solved

VARIABLE_LIMIT = 200
ROW_LIMIT = 120


def check_program(program):
    """Return None if something is a program within the limits, raise otherwise."""
    gains, rows = program
    for factors, _ in rows:
        if len(factors) != len(gains):
            raise ProgramError("a row has no factor for a variable, or too many")
    if len(gains) > VARIABLE_LIMIT or len(rows) > ROW_LIMIT:
        raise TooLarge("a program has too many variables or rows")


def best_of(program):
    """Return a best point, or why there is none: no point at all, or an endless gain."""
    check_program(program)
    return solved(program)
