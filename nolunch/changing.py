"""Markets that are made from markets."""

from nolunch.errors import MarketError
from nolunch.markets import check_market, node_at
from nolunch.ratios import compare, over, times


def widened(market, factor):
    """Return the market with buying prices multiplied and selling prices divided by a factor."""
    check_market(market)
    if compare(factor, (1, 1)) < 0:
        raise MarketError("a market is widened by a factor of at least 1")
    goods, node = market

    def wider(prices):
        return tuple([(times(buy, factor), over(sell, factor)) for buy, sell in prices])

    return (goods, _repriced(node, wider))


def turned(market, order):
    """Return the market in which each good is what another one of some order was."""
    check_market(market)
    goods, node = market
    if sorted(order) != list(range(goods)) or order[0] != 0:
        raise MarketError("an order has each good once, and money first")

    def reordered(prices):
        return tuple([prices[good - 1] for good in order[1:]])

    return (goods, _repriced(node, reordered))


def market_at(market, path):
    """Return the market that begins at a moment."""
    check_market(market)
    goods, _ = market
    return (goods, node_at(market, path))


def _repriced(node, change):
    prices, following = node
    return (change(prices), tuple([_repriced(each, change) for each in following]))
