"""Judges of sure gains and of fair weights, and the prices between that weights tell."""

from nolunch.errors import MomentError
from nolunch.gains import holdings
from nolunch.markets import check_market, node_at, walk
from nolunch.ratios import any_negative, compare, over, times, total


def check_gain(market, plan):
    """Tell whether a plan is a sure gain."""
    check_market(market)
    nothing = ((0, 1),) * market[0]
    rows = [held for _, held in holdings(market, nothing, plan)]
    if any([any_negative(held) for held in rows]):
        return False
    return any([compare(held[0], (0, 1)) > 0 for held in rows])


def check_fair(market, weights):
    """Tell whether something has the form of weights, and is fair."""
    check_market(market)
    nodes = walk(market)
    if not _has_form(market, nodes, weights):
        return False
    rows = [row for _, row in weights]
    if any([any_negative(row) or row[0] == (0, 1) for row in rows]):
        return False
    return all([is_between(sums_behind(weights, path), node[0]) for path, node in nodes])


def _has_form(market, nodes, weights):
    goods, _ = market
    if any([len(pair) != 2 or len(pair[1]) != goods for pair in weights]):
        return False
    return [path for path, _ in weights] == [path for path, node in nodes if not node[1]]


def sums_behind(weights, path):
    """Return for each good the sum of its weights over all ends behind a moment."""
    rows = [row for end, row in weights if end[:len(path)] == path]
    return tuple([total(column) for column in zip(*rows)])


def is_between(row, prices):
    """Tell whether each good's number is at least sell and at most buy times that of money."""
    money = row[0]
    for number, (buy, sell) in zip(row[1:], prices):
        if compare(number, times(sell, money)) < 0 or compare(number, times(buy, money)) > 0:
            return False
    return True


def middle_price(market, weights, path, good):
    """Return the price of a good that fair weights tell for a moment."""
    check_market(market)
    node_at(market, path)
    goods, _ = market
    if not 0 <= good < goods:
        raise MomentError("there is no such good")
    sums = sums_behind(weights, path)
    return over(sums[good], sums[0])
