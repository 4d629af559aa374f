"""Markets: how they are checked, and what there is to ask of them."""

from nolunch.errors import MarketError, MomentError, TooLarge
from nolunch.ratios import compare

GOODS_LIMIT = 4
MOMENT_LIMIT = 40
TIME_LIMIT = 5


def check_market(market):
    """Return None if something is a market within the limits, raise otherwise."""
    goods, _ = market
    if not 1 <= goods <= GOODS_LIMIT:
        raise MarketError("a market has from one to four goods")
    nodes = walk(market)
    for _, node in nodes:
        _check_prices(goods, node[0])
    end_times = [len(path) for path, node in nodes if not node[1]]
    if min(end_times) != max(end_times):
        raise MarketError("two ends of a market have different times")
    if len(nodes) > MOMENT_LIMIT or end_times[0] > TIME_LIMIT:
        raise TooLarge("a market has too many moments or too late ends")


def _check_prices(goods, prices):
    if len(prices) != goods - 1:
        raise MarketError("a node has no price for a good, or too many")
    for pair in prices:
        if len(pair) != 2:
            raise MarketError("a price is a pair")
        buy, sell = pair
        if compare(sell, (0, 1)) < 0 or compare(buy, sell) < 0:
            raise MarketError("a selling price is negative or above the buying price")


def walk(market):
    """Return the list of pairs (path, node) of all moments, ascending, of an unchecked market."""
    # No recursion: nobody has looked yet how deep the nodes are nested.
    found = []
    waiting = [((), market[1])]
    while waiting:
        path, node = waiting.pop()
        found.append((path, node))
        following = node[1]
        for index in reversed(range(len(following))):
            waiting.append((path + (index,), following[index]))
    return found


def node_at(market, path):
    """Return the node of a moment of a checked market."""
    node = market[1]
    for index in path:
        following = node[1]
        if not 0 <= index < len(following):
            raise MomentError("there is no such moment")
        node = following[index]
    return node


def moments(market):
    """Return the paths of all moments, ascending."""
    check_market(market)
    return tuple([path for path, _ in walk(market)])


def ends(market):
    """Return the paths of the ends, ascending."""
    check_market(market)
    return tuple([path for path, node in walk(market) if not node[1]])


def last_time(market):
    """Return the time of the ends."""
    return len(ends(market)[0])


def price_of(market, path, good):
    """Return the pair of the buying and the selling price of a good at a moment."""
    check_market(market)
    goods, _ = market
    prices, _ = node_at(market, path)
    if not 0 <= good < goods:
        raise MomentError("there is no such good")
    if good == 0:
        return ((1, 1), (1, 1))
    return prices[good - 1]


def nexts(market, path):
    """Return how many nodes can come next."""
    check_market(market)
    _, following = node_at(market, path)
    return len(following)
