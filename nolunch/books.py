"""Books of deals that never owe what they do not hold."""

from nolunch.choices import places_for
from nolunch.contracts import check_contract
from nolunch.errors import DealError, MomentError, PendingError, TooLarge, UnsafeError
from nolunch.integers import write_integer
from nolunch.markets import node_at
from nolunch.netting import joined
from nolunch.notation import write_market
from nolunch.places import first_place
from nolunch.plans import traded
from nolunch.ratios import added, any_negative, lowest, minus, multiplied, plus, times, write_fraction
from nolunch.safety import cheapest, middles_of, needs_of_ways
from nolunch.stepping import face
from nolunch.texts import write_contract

DEAL_LIMIT = 20


class Book:
    """What is held and given in a market, from its first moment on, so that it is always safe."""

    def __init__(self, market, money):
        self._middles = middles_of(market)
        if any_negative([money]):
            raise UnsafeError("a book does not begin with debts")
        goods, _ = market
        self._market = market
        self._path = ()
        self._held = (money,) + ((0, 1),) * (goods - 1)
        self._contracts = ()
        self._settled = False
        self._log = write_market(market)
        self._note(["money", write_fraction(money)])

    @property
    def path(self):
        """The moment of the book."""
        return self._path

    @property
    def held(self):
        """What the book holds of each good, money first."""
        return self._held

    @property
    def deals(self):
        """The pairs (number, contract) of all deals, as they go on."""
        return tuple(enumerate(self._contracts))

    @property
    def settled(self):
        """Whether the book has settled at this moment."""
        return self._settled

    @property
    def log(self):
        """The text of the market, of the money at first and of all deeds."""
        return self._log

    def sell(self, contract, price):
        """Give a contract for a price in money, and return the number of the deal."""
        if self._settled:
            raise PendingError("a book that has settled moves before it makes a deal")
        goods, _ = self._market
        check_contract(goods, contract)
        number = len(self._contracts)
        if number >= DEAL_LIMIT:
            raise TooLarge("a book has no more deals than that")
        contracts = self._contracts + (contract,)
        held = (plus(self._held[0], price),) + self._held[1:]
        self._check_safe(held, contracts)
        self._note(["sell", write_fraction(price), write_contract(contract)])
        self._held = held
        self._contracts = contracts
        return number

    def buy(self, contract, price):
        """Get a contract for a price in money, and return the number of the deal."""
        return self.sell(("give", contract), times((-1, 1), price))

    def asked(self):
        """Return the pairs (number, side) of all deals that ask at this moment."""
        return tuple([(number, told[1]) for number, told in enumerate(self._faced())
                      if told[0] == "ask"])

    def choose(self, number, option):
        """Choose an option for a deal that asks."""
        faced = self._faced()
        if not 0 <= number < len(faced) or faced[number][0] != "ask" or option not in (0, 1):
            raise DealError("no such deal asks for such a choice")
        chosen = faced[number][2 + option]
        contracts = self._contracts[:number] + (chosen,) + self._contracts[number + 1:]
        # For all that a client may choose the book is safe anyway.
        if faced[number][1] == "giver":
            self._check_safe(self._held, contracts)
        self._note(["choose", write_integer(number), write_integer(option)])
        self._contracts = contracts

    def settle(self):
        """Do trades and give what all deals pay, and return the amounts of the trades."""
        self._check_settling()
        units = self._held[1:]
        _, _, needs = self._best_from(self._path, units, self._contracts)
        # No deal asks, so that there is one place alone at which all of them pay.
        amounts = needs[0].answer(units).amounts
        held, contracts = self._behind(amounts)
        self._settle(amounts, held, contracts)
        return amounts

    def settle_with(self, amounts):
        """Settle by some trades; UnsafeError if the book would not be safe behind them."""
        self._check_settling()
        held, contracts = self._behind(amounts)
        if not self._is_safe_behind(held, contracts):
            raise UnsafeError("behind these trades the book would not be safe")
        self._settle(amounts, held, contracts)

    def move(self, index):
        """Go on to a next moment."""
        if not self._settled:
            raise PendingError("a book settles before it moves")
        if not 0 <= index < self._many_nexts():
            raise MomentError("there is no such next moment")
        self._note(["move", write_integer(index)])
        self._path = self._path + (index,)
        self._settled = False

    def spare(self):
        """Return the greatest amount of money that could be taken out."""
        if self._settled:
            return self._spare_behind(self._held, self._contracts)
        return self._spare_from(self._path, self._held, self._contracts)

    def _note(self, words):
        self._log = self._log + " ".join(words) + "\n"

    def _many_nexts(self):
        _, following = node_at(self._market, self._path)
        return len(following)

    def _faced(self):
        """Return what each deal asks or pays at this moment, nothing behind settling."""
        if self._settled:
            return []
        prices, _ = node_at(self._market, self._path)
        return [face(len(self._path), prices, contract) for contract in self._contracts]

    def _best_from(self, path, units, contracts):
        """Return what cheapest tells of all of some contracts that are entered at a moment."""
        places = places_for(first_place(self._market, path, joined(contracts)), "giver")
        return cheapest(needs_of_ways(places, self._middles), units)

    def _spare_from(self, path, held, contracts):
        """Return the spare money if some contracts are entered at a moment."""
        money, _, _ = self._best_from(path, held[1:], contracts)
        return minus(held[0], money)

    def _check_safe(self, held, contracts):
        if any_negative([self._spare_from(self._path, held, contracts)]):
            raise UnsafeError("with this deal, or this choice, the book would not be safe")

    def _spare_behind(self, held, contracts):
        """Return the spare money if some contracts are left behind settling at this moment."""
        many = self._many_nexts()
        if many == 0:
            return held[0]
        return lowest([self._spare_from(self._path + (index,), held, contracts)
                       for index in range(many)])

    def _is_safe_behind(self, held, contracts):
        # Debts of goods can be made good later, but not at an end.
        if self._many_nexts() == 0:
            return not any_negative(held)
        return not any_negative([self._spare_behind(held, contracts)])

    def _check_settling(self):
        if self._settled or self.asked():
            raise PendingError("a book settles once at a moment, when no deal asks any more")

    def _behind(self, amounts):
        """Return what is held, and what is left of all deals, behind trades and what they pay."""
        prices, _ = node_at(self._market, self._path)
        held = traded(self._held, prices, amounts)
        left = []
        for _, paid, contract in self._faced():
            held = added(held, multiplied(paid, (-1, 1)))
            left.append(contract)
        return (held, tuple(left))

    def _settle(self, amounts, held, contracts):
        self._note(["settle"] + [write_fraction(amount) for amount in amounts])
        self._held = held
        self._contracts = contracts
        self._settled = True
