"""Whether the result of a linear program proves itself."""

from nolunch.programs import check_program
from nolunch.ratios import compare, dot


def check_result(program, result):
    """Tell whether all that is told of the parts of a result is so."""
    check_program(program)
    gains, rows = program
    lengths = {"best": [len(gains), len(rows)],
               "none": [len(rows)],
               "endless": [len(gains), len(gains)]}
    kind, *parts = result
    if kind not in lengths or [len(part) for part in parts] != lengths[kind]:
        return False
    if any([compare(number, (0, 1)) < 0 for part in parts for number in part]):
        return False
    if kind == "best":
        return _is_best(program, parts[0], parts[1])
    if kind == "none":
        return _is_none(program, parts[0])
    return _is_endless(program, parts[0], parts[1])


def _is_best(program, point, weights):
    gains, rows = program
    return (_keeps(rows, point) and _outweighs(rows, weights, gains)
            and _bound_of(rows, weights) == dot(gains, point))


def _is_none(program, weights):
    gains, rows = program
    nothing = ((0, 1),) * len(gains)
    return _outweighs(rows, weights, nothing) and compare(_bound_of(rows, weights), (0, 1)) < 0


def _is_endless(program, point, way):
    gains, rows = program
    level = [(factors, (0, 1)) for factors, _ in rows]
    return _keeps(rows, point) and _keeps(level, way) and compare(dot(gains, way), (0, 1)) > 0


def _keeps(rows, point):
    return all([compare(dot(factors, point), bound) <= 0 for factors, bound in rows])


def _outweighs(rows, weights, gains):
    """Tell whether for each variable the weighted factors are at least its gain."""
    for place, gain in enumerate(gains):
        column = [factors[place] for factors, _ in rows]
        if compare(dot(weights, column), gain) < 0:
            return False
    return True


def _bound_of(rows, weights):
    return dot(weights, [bound for _, bound in rows])
