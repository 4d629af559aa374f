"""The ways in which a side can choose."""

from nolunch.contracts import check_contract
from nolunch.errors import TooLarge, WayError
from nolunch.markets import check_market
from nolunch.places import all_places, first_place

WAY_LIMIT = 64
SETTLED_LIMIT = 200


def ways(market, contract, side):
    """Return all ways of a side, ascending."""
    return ways_among(checked_places(market, contract, side), side)


def settled_with(market, contract, side, way):
    """Return all settled histories that go with a way of a side, ascending."""
    places = checked_places(market, contract, side)
    check_way(places, side, way)
    return tuple([place.history for place in places_with(places, side, way) if place.side is None])


def checked_places(market, contract, side):
    """Return all places, ascending by their histories, or raise the errors of ways."""
    check_market(market)
    check_contract(market[0], contract)
    check_side(side)
    return places_for(first_place(market, (), contract), side)


def check_side(side):
    """Return None if something is a side, raise otherwise."""
    if side not in ("giver", "holder"):
        raise WayError("a side is the giver or the holder")


def places_for(first, side):
    """Return a first place and all behind it, unless too many are settled, or a side has too many ways."""
    places = all_places(first, SETTLED_LIMIT, True)
    if _count_ways(places, side) > WAY_LIMIT:
        raise TooLarge("a side has too many ways")
    return places


def _count_ways(places, side):
    counts = {}
    for place in reversed(places):
        behind = [counts[each.history] for each in place.branches]
        many = 1
        for count in behind:
            many = many * count
        counts[place.history] = sum(behind) if place.side == side else many
    return counts[()]


def check_way(places, side, way):
    """Return None if something is a way of a side, raise otherwise."""
    if way not in ways_among(places, side):
        raise WayError("a side has no such way")


def ways_among(places, side):
    """Return all ways of a side among all places of a contract, ascending."""
    return tuple([way for way, _ in alternatives(places, side, _make_nothing)])


def _make_nothing(place, parts):
    return None


def alternatives(places, side, make):
    """Return for each way of a side, ascending, the pair of it and of what is made with it.

    make is called with a place that does not ask the side, and the list of what was made with
    the way at its branches; at a place that asks the side it is what was made at the option.
    """
    # Each part of a way, the choices at a place and behind it, is made once for all ways that
    # have it. A way begins with what is chosen first, so that they ascend as they are made.
    found = {}
    for place in reversed(places):
        behind = [found[each.history] for each in place.branches]
        if place.side == side:
            found[place.history] = [(((place.history, option),) + way, made)
                                    for option, some in enumerate(behind) for way, made in some]
        else:
            found[place.history] = [(way, make(place, parts)) for way, parts in _combined(behind)]
    return found[()]


def _combined(behind):
    """Return each way to take one alternative of each branch, as a pair of a way and of parts."""
    rows = [((), [])]
    for some in behind:
        rows = [(way + more, parts + [made]) for way, parts in rows for more, made in some]
    return rows


def places_with(places, side, way):
    """Return those of all places whose histories go with a way of a side."""
    options = {history: option for history, option in way}
    kept = {(): True}
    for place in places:
        if place.history in kept:
            for option, each in enumerate(place.branches):
                if place.side != side or option == options[place.history]:
                    kept[each.history] = True
    return [place for place in places if place.history in kept]
