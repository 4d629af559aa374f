"""Which contracts can be given by whoever holds another one."""

from nolunch.choices import places_for
from nolunch.contracts import check_contract
from nolunch.markets import check_market
from nolunch.places import first_place
from nolunch.ratios import any_negative, times
from nolunch.safety import cheapest, middles_of, needs_of_ways, no_units


def covers(market, c, d):
    """Tell whether whoever holds a contract c, and has nothing else, can give d."""
    return not any_negative([worth_beside(market, c, d)])


def worth_beside(market, c, d):
    """Return the greatest amount of money that whoever holds c and gives d can take out at first."""
    _check(market, [c, d])
    return _worth(market, c, d)


def best_cover(market, contracts, d):
    """Return the index of the first one of some contracts that covers d, None if none does."""
    _check(market, [*contracts, d])
    for index, c in enumerate(contracts):
        if not any_negative([_worth(market, c, d)]):
            return index
    return None


def _check(market, contracts):
    check_market(market)
    for contract in contracts:
        check_contract(market[0], contract)


def _worth(market, c, d):
    """Return the negative of what it costs to give d and to get c, of whatever size this pair is."""
    places = places_for(first_place(market, (), ("both", d, ("give", c))), "giver")
    money, _, _ = cheapest(needs_of_ways(places, middles_of(market)), no_units(market))
    return times((-1, 1), money)
