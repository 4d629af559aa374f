"""What contracts cost, hedges that do for it, and bounds that show that nothing less does."""

from nolunch.choices import checked_places, places_for, places_with
from nolunch.needs import greatest_answer, rows_of, trades_from
from nolunch.places import first_place
from nolunch.ratios import times
from nolunch.safety import cheapest, middles_of, needs_of_ways, no_units


def cost(market, contract):
    """Return the least money of a safe hedge, such a hedge, and a bound for each way of the giver."""
    places = checked_places(market, contract, "giver")
    choices = needs_of_ways(places, middles_of(market))
    nothing = no_units(market)
    money, way, needs = cheapest(choices, nothing)
    bounds = tuple([(each, _bound_of(places, each, greatest_answer(some, nothing).shown))
                    for each, some in choices])
    return (money, (money, way, trades_from(needs)), bounds)


def interval(market, contract):
    """Return the lowest and the highest safe price of a contract."""
    places = checked_places(market, contract, "giver")
    middles = middles_of(market)
    nothing = no_units(market)
    missing, _, _ = cheapest(needs_of_ways(_opposite_places(market, contract), middles), nothing)
    highest, _, _ = cheapest(needs_of_ways(places, middles), nothing)
    return (times((-1, 1), missing), highest)


def worth_of_ways(market, contract, side):
    """Return for each way of a side the pair of it and of the best safe price with it."""
    places = checked_places(market, contract, side)
    sign = (1, 1)
    if side == "holder":
        # The histories of the opposite are the same, and its giver is asked what the holder is.
        places = _opposite_places(market, contract)
        sign = (-1, 1)
    nothing = no_units(market)
    return tuple([(way, times(sign, greatest_answer(needs, nothing).money))
                  for way, needs in needs_of_ways(places, middles_of(market))])


def _opposite_places(market, contract):
    return places_for(first_place(market, (), ("give", contract)), "giver")


def _bound_of(places, way, point):
    """Return the bound that a point tells for a way of the giver."""
    rows = rows_of(point)
    nothing = ((0, 1),) * len(places[0].given)
    return tuple([(place.history, rows.get(place.history, nothing))
                  for place in places_with(places, "giver", way) if place.is_whole()])
