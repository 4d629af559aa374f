"""Tight prices: the least and the greatest ones that fair weights tell."""

from nolunch.markets import price_of, walk
from nolunch.ratios import minus, plus
from nolunch.safety import fair_weights
from nolunch.simplex import greatest_gains


def tight_price(market, path, good):
    """Return the pair of the least and the greatest middle price of a good at a moment."""
    prices = price_of(market, path, good)
    corners = _corners(market)
    rows = _rows_between(market, corners)
    pairs = _tight_pairs(corners, rows, path, [good], [prices])
    return pairs[0]


def tightened(market):
    """Return the market in which each price pair is that of the tight prices."""
    corners = _corners(market)
    rows = _rows_between(market, corners)
    goods, node = market
    return (goods, _tight_node(corners, rows, (), node))


def _tight_node(corners, rows, path, node):
    prices, following = node
    pairs = _tight_pairs(corners, rows, path, list(range(1, len(prices) + 1)), prices)
    nodes = [_tight_node(corners, rows, path + (index,), each)
             for index, each in enumerate(following)]
    return (tuple([(high, low) for low, high in pairs]), tuple(nodes))


def _corners(market):
    """Return the pairs (end, prices) of all corners of the prices of the ends, money first.

    Fair weights are sums of corners, each times a number of at least 0. What such numbers tell
    that keep between the prices of the other moments, fair weights come as near to as one likes:
    a little of some fair weights, added to them, lets none of money be 0.
    """
    fair_weights(market)
    found = []
    for path, node in walk(market):
        if not node[1]:
            found.extend([(path, row) for row in _corner_rows(node[0])])
    return found


def _corner_rows(prices):
    rows = [((1, 1),)]
    for buy, sell in prices:
        sides = [buy] if buy == sell else [buy, sell]
        rows = [row + (side,) for row in rows for side in sides]
    return rows


def _rows_between(market, corners):
    """Return the rows of a program that keep sums of corners between the prices of all moments."""
    rows = []
    for path, node in walk(market):
        if not node[1]:
            # Between the prices of an end are all sums of its corners.
            continue
        for good, (buy, sell) in enumerate(node[0], start=1):
            rows.append((_excess(corners, path, good, buy), (0, 1)))
            rows.append((_lack(corners, path, good, sell), (0, 1)))
    return rows


def _excess(corners, path, good, price):
    """Return for each corner how much more than some price it tells for a good at a moment."""
    return tuple([minus(row[good], price) if end[:len(path)] == path else (0, 1)
                  for end, row in corners])


def _lack(corners, path, good, price):
    """Return for each corner how much less than some price it tells for a good at a moment."""
    return tuple([minus(price, row[good]) if end[:len(path)] == path else (0, 1)
                  for end, row in corners])


def _tight_pairs(corners, rows, path, goods, prices):
    """Return the tight pairs of some goods at a moment, given their price pairs there."""
    goals = []
    for good, (buy, sell) in zip(goods, prices):
        goals.extend([_excess(corners, path, good, sell), _lack(corners, path, good, buy)])
    # No weights gain by less money than 1 at the moment: no price there is beyond sell and buy.
    money = tuple([(1, 1) if end[:len(path)] == path else (0, 1) for end, _ in corners])
    gains = greatest_gains(rows + [(money, (1, 1))], goals)
    return [(minus(buy, gains[2 * k + 1]), plus(sell, gains[2 * k]))
            for k, (buy, sell) in enumerate(prices)]
