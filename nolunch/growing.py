"""Markets that grow from first prices by the same moves at each moment."""

from nolunch.errors import MarketError, TooLarge
from nolunch.markets import GOODS_LIMIT, MOMENT_LIMIT, TIME_LIMIT
from nolunch.ratios import any_negative, compare, minus, plus, times


def grown(prices, moves, last, spread):
    """Return the market in which prices are multiplied by one of some moves until a last time."""
    _check_prices(prices, moves)
    if not 0 <= last <= TIME_LIMIT or (last > 0 and not moves):
        raise MarketError("a market does not grow until such a time")
    if any_negative([spread]) or compare(spread, (1, 1)) >= 0:
        raise MarketError("a spread is at least 0 and less than 1")
    if _count_moments(len(moves), last) > MOMENT_LIMIT:
        raise TooLarge("a market would have too many moments")
    return (len(prices) + 1, _grown_node(prices, moves, last, spread))


def _check_prices(prices, moves):
    if len(prices) > GOODS_LIMIT - 1 or any_negative(prices):
        raise MarketError("there are too many first prices, or one is negative")
    for move in moves:
        if len(move) != len(prices) or any([compare(number, (0, 1)) <= 0 for number in move]):
            raise MarketError("a move has a number above 0 for each price")


def _count_moments(many_moves, last):
    many = 1
    width = 1
    for _ in range(last):
        width = width * many_moves
        many = many + width
    return many


def _grown_node(prices, moves, rest, spread):
    up = plus((1, 1), spread)
    down = minus((1, 1), spread)
    pairs = tuple([(times(price, up), times(price, down)) for price in prices])
    nodes = []
    if rest > 0:
        for move in moves:
            changed = tuple([times(price, factor) for price, factor in zip(prices, move)])
            nodes.append(_grown_node(changed, moves, rest - 1, spread))
    return (pairs, tuple(nodes))
