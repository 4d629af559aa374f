"""Histories of contracts: where they lead, and what has been paid on the way."""

from nolunch.contracts import check_contract
from nolunch.markets import check_market
from nolunch.places import all_places, first_place

HISTORY_LIMIT = 400


def place_of(market, contract, history):
    """Return the pair of the path and the contract to which a history leads."""
    place = _place_at(market, contract, history)
    return (place.path, place.contract)


def paid(market, contract, history):
    """Return the sum of all amounts that were paid on the way of a history."""
    return _place_at(market, contract, history).given


def _place_at(market, contract, history):
    check_market(market)
    check_contract(market[0], contract)
    place = first_place(market, contract)
    for number in history:
        place = place.next_place(number)
    return place


def whole_histories(market, contract):
    """Return all whole histories, ascending."""
    check_market(market)
    check_contract(market[0], contract)
    places = all_places(market, contract, HISTORY_LIMIT, False)
    return tuple([place.history for place in places if place.is_whole()])
