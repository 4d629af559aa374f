"""What contracts cost, hedges that do for it, and bounds that show that nothing less does."""

from nolunch.choices import alternatives, checked_places, places_for, places_with
from nolunch.errors import SureGain
from nolunch.fairness import sums_behind
from nolunch.gains import sure_gain
from nolunch.markets import walk
from nolunch.needs import Need, greatest_answer, rows_of, trades_from
from nolunch.ratios import compare, over, times


def cost(market, contract):
    """Return the least money of a safe hedge, such a hedge, and a bound for each way of the giver."""
    places = checked_places(market, contract, "giver")
    choices = _needs_of_ways(places, _middles(market))
    money, way, needs = _cheapest(choices)
    bounds = tuple([(each, _bound_of(places, each, some)) for each, some in choices])
    return (money, (money, way, trades_from(needs)), bounds)


def interval(market, contract):
    """Return the lowest and the highest safe price of a contract."""
    places = checked_places(market, contract, "giver")
    middles = _middles(market)
    opposite = places_for(market, ("give", contract), "giver")
    missing, _, _ = _cheapest(_needs_of_ways(opposite, middles))
    highest, _, _ = _cheapest(_needs_of_ways(places, middles))
    return (times((-1, 1), missing), highest)


def worth_of_ways(market, contract, side):
    """Return for each way of a side the pair of it and of the best safe price with it."""
    places = checked_places(market, contract, side)
    sign = (1, 1)
    if side == "holder":
        # The histories of the opposite are the same, and its giver is asked what the holder is.
        places = places_for(market, ("give", contract), "giver")
        sign = (-1, 1)
    choices = _needs_of_ways(places, _middles(market))
    return tuple([(way, times(sign, _answer_of(needs).money)) for way, needs in choices])


def _middles(market):
    """Return for each path the weight of its money and the prices of fair weights."""
    kind, weights = sure_gain(market)
    if kind == "gain":
        raise SureGain("in a market with a sure gain there are no safe prices")
    middles = {}
    for path, _ in walk(market):
        money, *others = sums_behind(weights, path)
        middles[path] = (money, tuple([over(number, money) for number in others]))
    return middles


def _needs_of_ways(places, middles):
    """Return for each way of the giver the pair of it and of the needs at the first moment.

    These are the needs of all places that pay there first, of which the holder chooses one.
    """
    def make(place, parts):
        if place.side is None:
            return [Need(place, parts, middles)]
        return [need for part in parts for need in part]

    return alternatives(places, "giver", make)


def _cheapest(choices):
    """Return the least money of all ways of the giver, its way and its needs."""
    best = None
    for way, needs in choices:
        money = _answer_of(needs).money
        if best is None or compare(money, best[0]) < 0:
            best = (money, way, needs)
    return best


def _answer_of(needs):
    """Return what is needed by a giver who holds nothing."""
    return greatest_answer(needs, ((0, 1),) * len(needs[0].middle.prices))


def _bound_of(places, way, needs):
    """Return the bound that shows what is needed with a way of the giver."""
    rows = rows_of(_answer_of(needs).shown)
    nothing = ((0, 1),) * len(places[0].given)
    return tuple([(place.history, rows.get(place.history, nothing))
                  for place in places_with(places, "giver", way) if place.is_whole()])
