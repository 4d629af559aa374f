"""Judges of hedges and of bounds."""

from nolunch.choices import check_way, checked_places, places_with, ways_among
from nolunch.fairness import is_between
from nolunch.plans import traded
from nolunch.ratios import added, any_negative, dot, minus, total


def check_hedge(market, contract, hedge):
    """Tell whether something has the form of a hedge of a contract, and is safe."""
    places = checked_places(market, contract, "giver")
    if len(hedge) != 3:
        return False
    money, way, trades = hedge
    if way not in ways_among(places, "giver"):
        return False
    kept = places_with(places, "giver", way)
    if not _are_trades(market, kept, trades):
        return False
    ends = _held_at_ends(market, kept, money, {history: amounts for history, amounts in trades})
    return not any([any_negative(held) for held in ends])


def _are_trades(market, places, trades):
    """Tell whether something has the form of trades at settled ones of some places."""
    goods, _ = market
    if any([len(pair) != 2 or len(pair[1]) != goods - 1 for pair in trades]):
        return False
    known = {place.history: True for place in places if place.side is None}
    histories = [history for history, _ in trades]
    if any([history not in known for history in histories]):
        return False
    return all([one < other for one, other in zip(histories, histories[1:])])


def _held_at_ends(market, places, money, trades):
    """Return what is held at each whole one of some places by who begins with money alone."""
    goods, _ = market
    nothing = ((0, 1),) * (goods - 1)
    before = {(): (money, *nothing)}
    found = []
    for place in places:
        held = before[place.history]
        if place.side is None:
            prices, _ = place.node
            held = traded(held, prices, trades.get(place.history, nothing))
            held = tuple([minus(had, amount) for had, amount in zip(held, place.amounts)])
        if place.is_whole():
            found.append(held)
        for each in place.branches:
            before[each.history] = held
    return found


def worth_of(market, contract, way, bound):
    """Return the worth of a right bound for a way of the giver, None if it is not a right one."""
    places = checked_places(market, contract, "giver")
    check_way(places, "giver", way)
    kept = places_with(places, "giver", way)
    if not _is_right(market, kept, bound):
        return None
    rows = {history: row for history, row in bound}
    return total([dot(rows[place.history], place.given) for place in kept if place.is_whole()])


def _is_right(market, places, bound):
    """Tell whether something is a right bound for the way with which all of some places go."""
    goods, _ = market
    if any([len(pair) != 2 or len(pair[1]) != goods for pair in bound]):
        return False
    if [history for history, _ in bound] != [place.history for place in places if place.is_whole()]:
        return False
    if any([any_negative(row) for _, row in bound]):
        return False
    if total([row[0] for _, row in bound]) != (1, 1):
        return False
    sums = _sums(market, places, {history: row for history, row in bound})
    return all([is_between(sums[place.history], place.node[0])
                for place in places if place.side is None])


def _sums(market, places, rows):
    """Return for each place the sums of all rows whose histories begin with its own."""
    goods, _ = market
    sums = {}
    for place in reversed(places):
        row = rows.get(place.history, ((0, 1),) * goods)
        for each in place.branches:
            # Branches that do not go with the way have none.
            if each.history in sums:
                row = added(row, sums[each.history])
        sums[place.history] = row
    return sums
