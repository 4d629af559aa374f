"""Places: where the histories of a contract lead."""

from nolunch.errors import HistoryError, TooLarge
from nolunch.markets import node_at
from nolunch.ratios import added
from nolunch.stepping import face


class Place:
    """The moment and the contract to which a history leads.

    moment is the path of the moment. side is the one that is asked there, None if the place
    pays. amounts is what it pays itself, None if it asks, and given what has been paid on the
    way, this place included. branches are the places that come next, as far as they have been
    looked for.
    """

    def __init__(self, history, moment, node, contract, given):
        prices, _ = node
        told = face(len(moment), prices, contract)
        self.history = history
        self.moment = moment
        self.node = node
        self.contract = contract
        self.side = told[1] if told[0] == "ask" else None
        self.amounts = told[1] if told[0] == "pay" else None
        self.given = given if self.amounts is None else added(given, self.amounts)
        self.left = told[2:]
        self.branches = []

    def is_whole(self):
        """Tell whether the place pays at an end."""
        return self.side is None and not self.node[1]

    def next_place(self, number):
        """Return the place to which a further number of the history leads."""
        _, following = self.node
        if not 0 <= number < (2 if self.side is not None else len(following)):
            raise HistoryError("a number of a history does not fit")
        history = self.history + (number,)
        if self.side is not None:
            return Place(history, self.moment, self.node, self.left[number], self.given)
        moment = self.moment + (number,)
        return Place(history, moment, following[number], self.left[0], self.given)

    def look_ahead(self):
        """Look for the places that come next, and return them."""
        many = 2 if self.side is not None else len(self.node[1])
        self.branches = [self.next_place(number) for number in range(many)]
        return self.branches


def first_place(market, path, contract):
    """Return the place of the empty history of a contract that is entered at a moment."""
    goods, _ = market
    return Place((), path, node_at(market, path), contract, ((0, 1),) * goods)


def all_places(first, limit, settled_alone):
    """Return a first place and all behind it, ascending by their histories, with their branches.

    TooLarge if there are more than some limit, or more settled ones, if only these count.
    """
    found = []
    many = 0
    waiting = [first]
    while waiting:
        place = waiting.pop()
        found.append(place)
        if place.side is None or not settled_alone:
            many += 1
        if many > limit:
            raise TooLarge("a contract has too many histories")
        waiting.extend(place.look_ahead()[::-1])
    return found
