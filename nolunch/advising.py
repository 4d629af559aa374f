"""Advice for a side that is asked for a choice."""

from nolunch.choices import check_side, places_for
from nolunch.contracts import check_contract
from nolunch.errors import HistoryError, PlanError
from nolunch.histories import place_behind
from nolunch.markets import check_market
from nolunch.places import first_place
from nolunch.ratios import compare, minus
from nolunch.safety import cheapest, middles_of, needs_of_ways


def advice(market, contract, side, history, held):
    """Return for each option how much money could be taken out at once if a side chooses it."""
    goods, _ = market
    check_market(market)
    check_contract(goods, contract)
    check_side(side)
    place = place_behind(market, contract, history)
    if place.side != side:
        raise HistoryError("the place of a history does not ask this side")
    if len(held) != goods:
        raise PlanError("what is held has no number for a good, or too many")
    # Who gets a contract gives the opposite, and is asked for it at the same places.
    given = place.contract if side == "giver" else ("give", place.contract)
    places = places_for(first_place(market, place.moment, given), "giver")
    choices = needs_of_ways(places, middles_of(market))
    return (_spare_with(choices, 0, held), _spare_with(choices, 1, held))


def _spare_with(choices, option, held):
    """Return the spare money with the best one of all ways that begin with an option."""
    some = [(way, needs) for way, needs in choices if way[0][1] == option]
    money, _, _ = cheapest(some, held[1:])
    return minus(held[0], money)


def best_options(market, contract, side, history, held):
    """Return the options with which most money could be taken out."""
    first, second = advice(market, contract, side, history, held)
    order = compare(first, second)
    if order == 0:
        return (0, 1)
    return (0,) if order > 0 else (1,)
