"""What the giver of a contract needs from some moment on, for some held units."""

from nolunch.choices import alternatives
from nolunch.errors import SureGain
from nolunch.fairness import sums_behind
from nolunch.gains import sure_gain
from nolunch.markets import walk
from nolunch.needs import Need, greatest_answer
from nolunch.ratios import compare, over


def fair_weights(market):
    """Return fair weights, raise if there is a sure gain."""
    kind, weights = sure_gain(market)
    if kind == "gain":
        raise SureGain("in a market with a sure gain there are no safe prices")
    return weights


def middles_of(market):
    """Return for each path the weight of its money and the prices of fair weights."""
    weights = fair_weights(market)
    middles = {}
    for path, _ in walk(market):
        money, *others = sums_behind(weights, path)
        middles[path] = (money, tuple([over(number, money) for number in others]))
    return middles


def needs_of_ways(places, middles):
    """Return for each way of the giver the pair of it and of the needs at the first moment.

    These are the needs of all places that pay there first, of which the holder chooses one.
    """
    def make(place, parts):
        if place.side is None:
            return [Need(place, parts, middles)]
        return [need for part in parts for need in part]

    return alternatives(places, "giver", make)


def cheapest(choices, held):
    """Return the least money, for some held units, of some ways of the giver, its way and its needs."""
    best = None
    for way, needs in choices:
        money = greatest_answer(needs, held).money
        if best is None or compare(money, best[0]) < 0:
            best = (money, way, needs)
    return best


def no_units(market):
    """Return 0 units of each good from 1 on."""
    goods, _ = market
    return ((0, 1),) * (goods - 1)
