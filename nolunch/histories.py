"""Histories of contracts: where they lead, and what has been paid on the way."""

from nolunch.contracts import check_contract
from nolunch.markets import check_market
from nolunch.places import all_places, first_place

HISTORY_LIMIT = 400


def place_of(market, contract, history):
    """Return the pair of the path and the contract to which a history leads."""
    place = place_behind(market, contract, history)
    return (place.moment, place.contract)


def paid(market, contract, history):
    """Return the sum of all amounts that were paid on the way of a history."""
    return place_behind(market, contract, history).given


def place_behind(market, contract, history):
    """Return the place to which a history leads."""
    check_market(market)
    check_contract(market[0], contract)
    place = first_place(market, (), contract)
    for number in history:
        place = place.next_place(number)
    return place


def whole_histories(market, contract):
    """Return all whole histories, ascending."""
    return tuple([place.history for place in few_places(market, contract) if place.is_whole()])


def few_places(market, contract):
    """Return all places, ascending by their histories, unless there are too many of them."""
    check_market(market)
    check_contract(market[0], contract)
    return all_places(first_place(market, (), contract), HISTORY_LIMIT, False)
