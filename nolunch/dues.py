"""What contracts pay: at each moment, and in all."""

from nolunch.errors import MomentError
from nolunch.histories import few_places
from nolunch.markets import walk
from nolunch.ratios import highest, lowest


def dues(market, contract):
    """Return for each moment its path, and the least and the greatest dues of each good there."""
    places = few_places(market, contract)
    found = []
    for path, _ in walk(market):
        rows = [place.amounts for place in places if place.side is None and place.moment == path]
        columns = list(zip(*rows))
        found.append((path, tuple([lowest(column) for column in columns]),
                      tuple([highest(column) for column in columns])))
    return tuple(found)


def most_paid(market, contract, good):
    """Return the greatest amount of a good that a contract has paid on any whole history."""
    return highest(_amounts_paid(market, contract, good))


def least_paid(market, contract, good):
    """Return the least amount of a good that a contract has paid on any whole history."""
    return lowest(_amounts_paid(market, contract, good))


def _amounts_paid(market, contract, good):
    places = few_places(market, contract)
    goods, _ = market
    if not 0 <= good < goods:
        raise MomentError("there is no such good")
    return [place.given[good] for place in places if place.is_whole()]


def pays_nothing(market, contract):
    """Tell whether all dues of a contract are 0."""
    return all([amount == (0, 1) for place in few_places(market, contract) if place.side is None
                for amount in place.amounts])
