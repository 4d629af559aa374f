"""What books and advice are held against: an own record, and costs of what goes on at a later moment."""

from fractions import Fraction

from linear import numbers, pair
from nolunch.changing import market_at
from nolunch.hedging import cost
from nolunch.markets import nexts, price_of
from nolunch.ratios import write_fraction
from nolunch.stepping import faced
from nolunch.texts import write_contract
from playing import hold_fractions
from samples import is_plain


def shifted(contract, time):
    """A contract as it is in the market that begins at some time: its times are so much less."""
    word = contract[0]
    if word in ("at", "early"):
        if contract[1] < time:
            return ("nothing",)
        return (word, contract[1] - time, shifted(contract[2], time))
    if word in ("both", "or"):
        return (word, shifted(contract[1], time), shifted(contract[2], time))
    if word in ("give", "later"):
        return (word, shifted(contract[1], time))
    if word in ("scale", "when", "until"):
        return (word, contract[1], shifted(contract[2], time))
    return contract


def all_of(contracts):
    """The contract of point 904."""
    together = None
    for contract in contracts:
        together = contract if together is None else ("both", together, contract)
    return ("nothing",) if together is None else together


def needed(market, path, contract, units):
    """The least money for giving what is entered at a moment, with units held of all goods from 1 on."""
    together = shifted(contract, len(path))
    for good, number in enumerate(units, 1):
        if number != 0:
            held = ("scale", ("number", pair(number)), ("one", good))
            together = ("both", together, ("give", held))
    return Fraction(*cost(market_at(market, path), together)[0])


class Record:
    """What a book has to be like, worked out by the prices of the market and what deals pay."""

    def __init__(self, market, money, text):
        self.market = market
        self.path = ()
        self.held = [Fraction(money)] + [Fraction(0)] * (market[0] - 1)
        self.deals = []
        self.settled = False
        self.log = text + "money " + write_fraction(pair(money)) + "\n"

    def faced(self):
        return [] if self.settled else [faced(self.market, self.path, deal) for deal in self.deals]

    def asked(self):
        return tuple((number, told[1]) for number, told in enumerate(self.faced())
                     if told[0] == "ask")

    def need(self, deals):
        return needed(self.market, self.path, all_of(deals), self.held[1:])

    def need_behind(self):
        """The money that is needed behind settling here, without further trades here."""
        return max(needed(self.market, self.path + (index,), all_of(self.deals), self.held[1:])
                   for index in range(nexts(self.market, self.path)))

    def spare(self):
        if not self.settled:
            return self.held[0] - self.need(self.deals)
        if nexts(self.market, self.path) == 0:
            return self.held[0]
        return self.held[0] - self.need_behind()

    def sell(self, contract, price):
        self.deals.append(contract)
        self.held[0] += price
        self.log += f"sell {write_fraction(pair(price))} {write_contract(contract)}\n"

    def with_choice(self, number, option):
        deals = list(self.deals)
        deals[number] = self.faced()[number][2 + option]
        return deals

    def choose(self, number, option):
        self.deals = self.with_choice(number, option)
        self.log += f"choose {number} {option}\n"

    def settle(self, amounts):
        for good, amount in enumerate(numbers(amounts), 1):
            buy, sell = numbers(price_of(self.market, self.path, good))
            self.held[0] -= amount * (buy if amount > 0 else sell)
            self.held[good] += amount
        told = self.faced()
        for _, paid, _ in told:
            self.held = [had - given for had, given in zip(self.held, numbers(paid))]
        self.deals = [left for _, _, left in told]
        self.settled = True
        self.log += " ".join(["settle"] + [write_fraction(amount) for amount in amounts]) + "\n"

    def move(self, index):
        self.path += (index,)
        self.settled = False
        self.log += f"move {index}\n"


def state_of(book):
    """All that a book shows."""
    return (book.path, book.held, book.deals, book.settled, book.asked(), book.log)


def hold_book(test, book, record, with_spare=True):
    """Hold all that a book shows against a record."""
    test.assertTrue(is_plain(state_of(book)[:3]) and is_plain(book.asked()))
    test.assertEqual(book.path, record.path)
    hold_fractions(test, book.held)
    test.assertEqual(numbers(book.held), record.held)
    test.assertEqual(book.deals, tuple(enumerate(record.deals)))
    test.assertIs(book.settled, record.settled)
    test.assertEqual(book.asked(), record.asked())
    test.assertEqual(book.log, record.log)
    if with_spare:
        spare = book.spare()
        hold_fractions(test, (spare,))
        test.assertGreaterEqual(spare[0], 0)
        test.assertEqual(Fraction(*spare), record.spare())


def refused(test, error, book, call):
    """Hold that a deed raises an error and leaves everything as it was."""
    before = state_of(book) + (book.spare(),)
    test.assertRaises(error, call)
    test.assertEqual(state_of(book) + (book.spare(),), before)
