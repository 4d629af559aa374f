"""Part 9 and point 1001: books, their deals and their logs."""

import random
import time
import unittest
from fractions import Fraction

from dealing import Record, all_of, hold_book, needed, refused, state_of
from linear import numbers, pair
from nolunch.books import DEAL_LIMIT, Book
from nolunch.choices import ways
from nolunch.contracts import size_of
from nolunch.errors import (ContractError, DealError, MomentError, PendingError, SureGain, TooLarge,
                            UnsafeError)
from nolunch.hedging import cost
from nolunch.markets import ends, moments, nexts
from nolunch.notation import write_market
from nolunch.replaying import replay
from nolunch.texts import read_contract
from playing import (ALL_CONTRACTS, EVEN, FAIR_MARKETS, SPREAD, STEPS, THREE, either, scaled)
from samples import EXAMPLE, MONEY_ALONE, MONEY_TREE, WIDE, check_market_errors, price, star
from test_contracts import NOTHING, nested, row_of
from test_gains import random_market
from test_hedging import GAIN, random_contract
from test_histories import ors

CALL = read_contract("at(1, scale(greatest(minus(buy(1), number(2)), number(0)), one(0)))")
SMALL = Fraction(1, 1000)


def begun(market, money):
    return Book(market, pair(money)), Record(market, money, write_market(market))


def still_asked(book, side):
    return [number for number, asked in book.asked() if asked == side]


class Beginning(unittest.TestCase):
    def test_a_new_book(self):
        for market in FAIR_MARKETS + (EXAMPLE, WIDE, MONEY_ALONE, MONEY_TREE):
            for money in (0, 1, Fraction(7, 3)):
                book, record = begun(market, money)
                hold_book(self, book, record)
                self.assertEqual(book.held, (pair(money),) + ((0, 1),) * (market[0] - 1))
                self.assertEqual((book.path, book.deals, book.settled, book.asked()), ((), (), False, ()))
                self.assertEqual(book.spare(), pair(money))

    def test_errors_in_their_order(self):
        for money in ((1, 1), (-1, 1)):
            check_market_errors(self, lambda market: Book(market, money))
            self.assertRaises(SureGain, Book, GAIN, money)
        for market in (EXAMPLE, MONEY_ALONE):
            self.assertRaises(UnsafeError, Book, market, (-1, 100))
            Book(market, (0, 1))

    def test_the_limit(self):
        self.assertEqual(DEAL_LIMIT, 20)

    def test_methods_and_properties_stand_in_the_class(self):
        for name in ("__init__", "sell", "buy", "asked", "choose", "settle", "move", "spare"):
            self.assertTrue(callable(vars(Book)[name]), name)
        for name in ("path", "held", "deals", "settled", "log"):
            self.assertIsInstance(vars(Book)[name], property)


class Deals(unittest.TestCase):
    def test_what_sell_accepts_at_first(self):
        """Just enough is the cost, a little less is too little, and more is spare."""
        for market in FAIR_MARKETS:
            for contract in ALL_CONTRACTS:
                try:
                    money = Fraction(*cost(market, contract)[0])
                except TooLarge:
                    book = Book(market, (100, 1))
                    refused(self, TooLarge, book, lambda: book.sell(contract, (100, 1)))
                    continue
                for begin in (Fraction(0), Fraction(5, 2)):
                    book, record = begun(market, begin)
                    just = money - begin
                    refused(self, UnsafeError, book, lambda: book.sell(contract, pair(just - SMALL)))
                    self.assertEqual(book.sell(contract, pair(just)), 0)
                    record.sell(contract, just)
                    hold_book(self, book, record)
                    self.assertEqual(book.spare(), (0, 1))
                    book = Book(market, pair(begin))
                    book.sell(contract, pair(just + Fraction(2, 3)))
                    self.assertEqual(book.spare(), (2, 3))

    def test_buying_is_selling_the_opposite(self):
        for market in FAIR_MARKETS:
            for contract in ALL_CONTRACTS:
                opposite = ("give", contract)
                try:
                    worth = -Fraction(*cost(market, opposite)[0])
                except TooLarge:
                    continue
                one, record = begun(market, 9)
                other = Book(market, (9, 1))
                just = worth + 9
                refused(self, UnsafeError, one, lambda: one.buy(contract, pair(just + SMALL)))
                self.assertEqual(one.buy(contract, pair(just)), 0)
                self.assertEqual(other.sell(opposite, pair(-just)), 0)
                self.assertEqual(state_of(one), state_of(other))
                record.sell(opposite, -just)
                hold_book(self, one, record)
                self.assertEqual(one.spare(), (0, 1))

    def test_deals_together(self):
        """Together they cost what point 904 says, often less than one by one."""
        book, record = begun(SPREAD, 0)
        self.assertEqual(book.sell(("one", 1), (2, 1)), 0)
        # What is got need not be bought at 2 and sold at 1.
        self.assertEqual(book.buy(("one", 1), (2, 1)), 1)
        record.sell(("one", 1), 2)
        record.sell(("give", ("one", 1)), -2)
        hold_book(self, book, record)
        refused(self, UnsafeError, book, lambda: book.buy(("one", 1), (1001, 1000)))
        self.assertEqual(book.buy(("one", 1), (1, 1)), 2)
        self.assertEqual(book.held, ((-1, 1), (0, 1)))
        self.assertEqual(book.spare(), (0, 1))
        refused(self, UnsafeError, book, lambda: book.buy(NOTHING, (1, 1000)))

    def test_the_order_of_the_deals(self):
        # In the second one the giver chooses what the holder chose in the first one.
        contract = ("or", ("one", 1), scaled(Fraction(3, 2), ("one", 0)))
        book = Book(SPREAD, (0, 1))
        book.sell(contract, (2, 1))
        book.buy(contract, (2, 1))
        self.assertEqual((book.held[0], book.spare()), ((0, 1), (0, 1)))
        book = Book(SPREAD, (10, 1))
        book.buy(contract, (1, 1))
        # To choose ahead of the client is to be good for both choices.
        refused(self, UnsafeError, book, lambda: book.sell(contract, (-171, 20)))
        book.sell(contract, (-17, 2))
        self.assertEqual((book.held[0], book.spare()), ((1, 2), (0, 1)))

    def test_contracts_that_are_none(self):
        for market in (WIDE, EXAMPLE):
            book = Book(market, (5, 1))
            for contract in (("one", market[0]), ("one", -1), ("at", -1, NOTHING), nested("later", 20),
                             ("both", ("one", 9), ("both", ors(8), ors(9)))):
                refused(self, ContractError, book, lambda: book.sell(contract, (99, 1)))
                refused(self, ContractError, book, lambda: book.buy(contract, (-99, 1)))
        # To buy is to sell the opposite, which has one part more, and is one deeper.
        for contract in (nested("later", 19), ("give", row_of(20))):
            refused(self, ContractError, book, lambda: book.buy(contract, (-1, 1)))
            self.assertEqual(book.sell(contract, (1, 1)), len(book.deals) - 1)

    def test_twenty_deals(self):
        for market in (EXAMPLE, MONEY_TREE):
            book, record = begun(market, 1)
            for number in range(20):
                contract = ("later", ("one", 0)) if number & 1 else ("give", ("one", 0))
                value = 1 if number & 1 else -1
                self.assertEqual(book.sell(contract, pair(value)), number)
                record.sell(contract, value)
            hold_book(self, book, record, False)
            self.assertEqual(book.spare(), (1, 1))
            refused(self, TooLarge, book, lambda: book.sell(NOTHING, (99, 1)))
            refused(self, TooLarge, book, lambda: book.buy(NOTHING, (-99, 1)))
            refused(self, ContractError, book, lambda: book.sell(("one", 4), (99, 1)))
            record.settle(book.settle())
            book.move(0)
            record.move(0)
            # Deals that are over are deals.
            refused(self, TooLarge, book, lambda: book.sell(NOTHING, (0, 1)))
            record.settle(book.settle())
            hold_book(self, book, record, False)
            self.assertEqual(book.spare(), (1, 1))

    def test_ways_at_their_bound_and_behind_it(self):
        choice = either(("one", 0), NOTHING)
        market = (1, ((), (((), ()),)))
        book = Book(market, (0, 1))
        for _ in range(6):
            book.sell(choice, (0, 1))
        refused(self, TooLarge, book, lambda: book.sell(choice, (9, 1)))
        refused(self, TooLarge, book, lambda: book.sell(choice, (-9, 1)))
        refused(self, UnsafeError, book, lambda: book.sell(("one", 0), (0, 1)))
        # One choice less, and there are 32 ways; of the client's choices none has any.
        book.choose(3, 1)
        book.sell(choice, (0, 1))
        self.assertEqual(len(book.asked()), 6)
        book.choose(6, 1)
        book.sell(("or", NOTHING, NOTHING), (0, 1))
        self.assertEqual(len(book.asked()), 6)

    def test_settled_histories_at_their_bound_and_behind_it(self):
        choice = ("or", NOTHING, ("one", 0))
        for many, error in ((24, UnsafeError), (25, TooLarge)):
            book = Book((1, star(many)), (0, 1))
            book.sell(choice, (1, 1))
            book.sell(choice, (1, 1))
            # 8 times 25 settled histories, or 8 times 26.
            refused(self, error, book, lambda: book.sell(choice, (1, 2)))
            if error is UnsafeError:
                book.sell(choice, (1, 1))
                refused(self, TooLarge, book, lambda: book.sell(choice, (1, 1)))
            else:
                refused(self, TooLarge, book, lambda: book.sell(choice, (1, 1)))
                book.choose(0, 1)
                book.sell(choice, (1, 1))

    def test_they_count_from_the_moment_of_the_book(self):
        book = Book((1, star(39)), (1, 1))
        choice = ("or", NOTHING, ("one", 0))
        book.sell(choice, (1, 1))
        book.sell(choice, (1, 1))
        refused(self, TooLarge, book, lambda: book.sell(choice, (1, 1)))
        book.choose(0, 0)
        book.choose(1, 1)
        book.settle()
        book.move(38)
        for _ in range(7):
            book.sell(choice, (1, 1))
        refused(self, TooLarge, book, lambda: book.sell(choice, (1, 1)))


class Choices(unittest.TestCase):
    def test_who_is_asked(self):
        book, record = begun(STEPS, 50)
        for contract in (("one", 1), ("or", ("one", 0), ("one", 1)), either(NOTHING, ("one", 1)),
                         ("at", 1, ("or", NOTHING, ("one", 1))), ("give", ("early", 0, ("one", 0)))):
            book.sell(contract, (0, 1))
            record.sell(contract, 0)
        self.assertEqual(book.asked(), ((1, "holder"), (2, "giver"), (4, "giver")))
        hold_book(self, book, record)
        for number, option, left in ((2, 0, ((1, "holder"), (4, "giver"))), (1, 1, ((4, "giver"),)),
                                     (4, 1, ())):
            self.assertIsNone(book.choose(number, option))
            record.choose(number, option)
            self.assertEqual(book.asked(), left)
            hold_book(self, book, record)
        record.settle(book.settle())
        self.assertEqual(book.asked(), ())
        book.move(0)
        record.move(0)
        self.assertEqual(book.asked(), ((3, "holder"),))
        hold_book(self, book, record)

    def test_several_asks_of_a_deal(self):
        book, record = begun(EVEN, 10)
        contract = ("or", either(("one", 1), ("or", ("one", 0), NOTHING)), NOTHING)
        book.sell(contract, (0, 1))
        record.sell(contract, 0)
        for option, side in ((0, "holder"), (1, "giver"), (0, "holder")):
            self.assertEqual(book.asked(), ((0, side),))
            refused(self, PendingError, book, book.settle)
            book.choose(0, option)
            record.choose(0, option)
            hold_book(self, book, record)
        book.settle()
        self.assertEqual(book.held, ((9, 1), (0, 1)))

    def test_deals_and_options_that_are_none(self):
        book = Book(EXAMPLE, (10, 1))
        refused(self, DealError, book, lambda: book.choose(0, 0))
        book.sell(("one", 1), (0, 1))
        book.sell(("or", ("one", 1), NOTHING), (0, 1))
        book.sell(either(("one", 1), NOTHING), (0, 1))
        for number, option in ((0, 0), (0, 1), (3, 0), (-1, 0), (-2, 0), (1, 2), (1, -1), (2, 2), (2, -2)):
            refused(self, DealError, book, lambda: book.choose(number, option))
        book.choose(1, 0)
        refused(self, DealError, book, lambda: book.choose(1, 0))
        book.choose(2, 1)
        book.settle()
        for number in range(-1, 4):
            refused(self, DealError, book, lambda: book.choose(number, 0))

    def test_own_choices_that_are_not_safe(self):
        book, record = begun(EVEN, 0)
        contract = either(("one", 1), scaled(3, ("one", 0)))
        book.sell(contract, (2, 1))
        record.sell(contract, 2)
        refused(self, UnsafeError, book, lambda: book.choose(0, 1))
        refused(self, DealError, book, lambda: book.choose(0, 2))
        book.choose(0, 0)
        record.choose(0, 0)
        hold_book(self, book, record)

    def test_clients_may_choose_anything(self):
        contract = ("or", ("one", 1), scaled(3, ("one", 0)))
        for option, spare in ((0, (1, 1)), (1, (0, 1))):
            book = Book(EVEN, (0, 1))
            book.sell(contract, (3, 1))
            book.choose(0, option)
            self.assertEqual(book.spare(), spare)

    def test_ahead_of_a_client(self):
        """A choice that is made ahead of a client's is good for all of the client's."""
        contract = ("or", ("one", 1), scaled(3, ("one", 0)))
        book = Book(EVEN, (0, 1))
        book.sell(contract, (3, 1))
        book.buy(contract, (3, 1))
        self.assertEqual(book.asked(), ((0, "holder"), (1, "giver")))
        # Ahead of the client, neither choice is safe; behind it, the same one is.
        refused(self, UnsafeError, book, lambda: book.choose(1, 0))
        book.choose(0, 1)
        refused(self, UnsafeError, book, lambda: book.choose(1, 0))
        book.choose(1, 1)
        self.assertEqual(book.spare(), (0, 1))


class Settling(unittest.TestCase):
    def test_what_has_to_be_done_first(self):
        book = Book(EXAMPLE, (10, 1))
        refused(self, PendingError, book, lambda: book.move(0))
        refused(self, PendingError, book, lambda: book.move(9))
        book.sell(("or", ("one", 1), NOTHING), (0, 1))
        refused(self, PendingError, book, book.settle)
        refused(self, PendingError, book, lambda: book.move(0))
        book.choose(0, 1)
        book.settle()
        refused(self, PendingError, book, book.settle)
        # Ahead of all other errors.
        for contract, worth in ((NOTHING, (0, 1)), (("one", 7), (0, 1)), (ors(20), (0, 1)), (NOTHING, (-99, 1))):
            refused(self, PendingError, book, lambda: book.sell(contract, worth))
            refused(self, PendingError, book, lambda: book.buy(contract, worth))
        for index in (2, -1, 7):
            refused(self, MomentError, book, lambda: book.move(index))
        self.assertIsNone(book.move(1))
        self.assertEqual((book.path, book.settled), ((1,), False))
        refused(self, PendingError, book, lambda: book.move(0))
        book.settle()
        for index in (0, 1, -1):
            refused(self, MomentError, book, lambda: book.move(index))
        refused(self, PendingError, book, book.settle)

    def test_markets_of_money_alone(self):
        book, record = begun(MONEY_TREE, 1)
        contract = ("or", ("at", 2, ("one", 0)), ("give", ("at", 1, ("one", 0))))
        for deed in (book, record):
            deed.sell(contract, (0, 1) if deed is book else 0)
            deed.choose(0, 0)
        self.assertEqual(book.settle(), ())
        record.settle(())
        self.assertTrue(book.log.endswith("\nsettle\n"))
        hold_book(self, book, record)
        for index in (1, 0):
            book.move(index)
            record.move(index)
            record.settle(book.settle())
            hold_book(self, book, record)
        self.assertEqual(book.held, ((0, 1),))

    def test_an_end_at_first(self):
        market = (2, ((price(3, 2),), ()))
        book, record = begun(market, 1)
        book.sell(("one", 1), (2, 1))
        record.sell(("one", 1), 2)
        book.sell(("later", ("one", 1)), (0, 1))
        record.sell(("later", ("one", 1)), 0)
        hold_book(self, book, record)
        record.settle(book.settle())
        hold_book(self, book, record)
        self.assertEqual(book.spare(), book.held[0])
        refused(self, MomentError, book, lambda: book.move(0))

    def test_spare_behind_settling_is_without_further_trades_here(self):
        # A good that is sold here, and bought behind, costs 4 at most there.
        market = (2, ((price(2, 2),), (((price(4, 4),), ()), ((price(1, 1),), ()))))
        book, record = begun(market, 20)
        book.sell(("at", 1, ("one", 1)), (2, 1))
        record.sell(("at", 1, ("one", 1)), 2)
        self.assertEqual(book.spare(), (20, 1))
        record.settle(book.settle())
        hold_book(self, book, record)
        self.assertEqual(book.spare(), (20, 1))

    def test_the_log(self):
        market = (2, ((price(2, 2),), (((price(3, 3),), ()), ((price(1, 1),), ()))))
        book = Book(market, (1, 2))
        text = "goods 2\nmoment - 2 2\nmoment 0 3 3\nmoment 1 1 1\nmoney 1/2\n"
        self.assertEqual(book.log, text)
        book.sell(("or", ("one", 1), scaled(2, ("one", 0))), (5, 2))
        text += "sell 5/2 or(one(1), scale(number(2), one(0)))\n"
        book.buy(("one", 1), (3, 2))
        text += "sell -3/2 give(one(1))\n"
        self.assertEqual(book.log, text)
        book.choose(0, 0)
        amounts = book.settle()
        self.assertEqual(amounts, ((0, 1),))
        book.move(1)
        text += "choose 0 0\nsettle 0\nmove 1\n"
        self.assertEqual(book.log, text)


class Playing(unittest.TestCase):
    """Whatever a book accepts, clients choose and comes: it is as the record says, and safe."""

    def play(self, source, market, contracts, many_deals):
        book, record = begun(market, source.choice((0, 1, Fraction(5, 2))))
        hold_book(self, book, record)
        while True:
            for _ in range(source.randint(0, many_deals)):
                self.deal(source, book, record, contracts)
            self.choices(source, book, record)
            amounts = book.settle()
            self.assertEqual(len(amounts), market[0] - 1)
            record.settle(amounts)
            hold_book(self, book, record)
            many = nexts(market, book.path)
            if many == 0:
                self.assertTrue(all(number >= 0 for number in numbers(book.held)))
                return book
            index = source.randrange(many)
            book.move(index)
            record.move(index)
            hold_book(self, book, record)

    def deal(self, source, book, record, contracts):
        contract = source.choice(contracts)
        bought = source.random() < 0.4
        given = ("give", contract) if bought else contract
        deals = record.deals + [given]
        if size_of(all_of(deals)) > 30:
            return

        def call(price_):
            return book.buy(contract, pair(-price_)) if bought else book.sell(contract, pair(price_))

        try:
            just = record.need(deals) - record.held[0]
        except TooLarge:
            refused(self, TooLarge, book, lambda: call(100))
            return
        less = source.choice((SMALL, 1, 20))
        refused(self, UnsafeError, book, lambda: call(just - less))
        worth = just + source.choice((0, 0, SMALL, Fraction(4, 3)))
        self.assertEqual(call(worth), len(record.deals))
        record.sell(given, worth)
        hold_book(self, book, record)
        self.assertEqual(Fraction(*book.spare()), worth - just)

    def choices(self, source, book, record):
        while book.asked():
            clients = still_asked(book, "holder")
            own = still_asked(book, "giver")
            if clients and (not own or source.random() < 0.6):
                number, option = source.choice(clients), source.randint(0, 1)
                book.choose(number, option)
                record.choose(number, option)
            else:
                self.own_choice(source, book, record, own, not clients)
            hold_book(self, book, record)

    def own_choice(self, source, book, record, own, clients_are_done):
        number = source.choice(own)
        needs = [record.need(record.with_choice(number, option)) for option in (0, 1)]
        safe = [option for option in (0, 1) if needs[option] <= record.held[0]]
        if clients_are_done and number == own[0]:
            self.assertTrue(safe)
        for option in (0, 1):
            if option not in safe:
                refused(self, UnsafeError, book, lambda: book.choose(number, option))
        if safe:
            option = source.choice(safe)
            book.choose(number, option)
            record.choose(number, option)
        elif not clients_are_done:
            number = source.choice(still_asked(book, "holder"))
            book.choose(number, 0)
            record.choose(number, 0)

    def test_contracts_of_two_goods(self):
        for seed in range(28):
            source = random.Random(seed)
            market = (EVEN, SPREAD, STEPS, EXAMPLE)[seed % 4]
            with self.subTest(seed=seed):
                self.play(source, market, ALL_CONTRACTS, 3)

    def test_random_markets_and_contracts(self):
        for seed in range(24):
            source = random.Random(100 + seed)
            goods = source.choice((2, 3, 3))
            branches = source.choice(((2,), (3,), (2, 2), (1, 2), (2, 1)))
            market = random_market(source, goods, branches, Fraction(seed % 3, 12), Fraction(0))
            contracts = [random_contract(source, goods, 3) for _ in range(8)]
            contracts = [contract for contract in contracts if size_of(contract) <= 14]
            with self.subTest(seed=seed):
                self.play(source, market, contracts or [NOTHING], 3)

    def test_all_that_can_come(self):
        """Each choice of the client and each next moment, and each own choice that is accepted."""
        texts = ("both(early(2, one(1)), give(or(one(0), one(1))))",
                 "or(give(or(give(one(1)), give(scale(number(2), one(0))))), at(2, or(one(0), one(1))))",
                 "give(both(or(one(1), one(0)), at(1, or(one(1), scale(number(3), one(0))))))")
        for market in (SPREAD, STEPS, THREE):
            for text in texts:
                contract = read_contract(text)
                book = Book(market, (0, 1))
                book.sell(contract, cost(market, contract)[0])
                self.assertEqual(book.spare(), (0, 1))
                self.go_on(market, book)

    def go_on(self, market, book):
        clients = still_asked(book, "holder")
        own = still_asked(book, "giver")
        if clients:
            for option in (0, 1):
                self.go_on(market, self.behind(book, clients[0], option))
        elif own:
            accepted = [self.behind(book, own[0], option) for option in (0, 1)]
            accepted = [each for each in accepted if each is not None]
            self.assertTrue(accepted)
            for each in accepted:
                self.go_on(market, each)
        else:
            book.settle()
            if book.path in ends(market):
                self.assertTrue(all(number >= 0 for number in numbers(book.held)))
            for index in range(nexts(market, book.path)):
                self.assertGreaterEqual(book.spare()[0], 0)
                later = replay(book.log)
                later.move(index)
                self.assertGreaterEqual(later.spare()[0], 0)
                self.go_on(market, later)

    def behind(self, book, number, option):
        later = replay(book.log)
        try:
            later.choose(number, option)
        except UnsafeError:
            return None
        return later


class Times(unittest.TestCase):
    """Books with as many deals, ways and settled histories as the points allow take seconds."""

    def play(self, book, market, contracts):
        source = random.Random(3)
        refusals = 0
        while len(book.deals) < 20:
            try:
                book.sell(source.choice(contracts), (0, 1))
            except TooLarge:
                refusals += 1
                if refusals > 16:
                    book.sell(("later", ("one", 1)), (0, 1))
        shown = book.deals
        while True:
            while book.asked():
                clients = still_asked(book, "holder")
                number = clients[0] if clients else book.asked()[0][0]
                try:
                    book.choose(number, source.randint(0, 1))
                except UnsafeError:
                    pass
            book.settle()
            book.spare()
            many = nexts(market, book.path)
            if many == 0:
                return shown
            book.move(source.randrange(many))

    def test_twenty_deals_in_markets_of_seven_moments(self):
        contracts = [read_contract(text) for text in (
            "early(1, one(1))", "give(early(1, one(2)))", "give(or(one(1), scale(number(1/2), one(2))))",
            "give(later(or(one(1), one(2))))", "later(or(one(1), one(2)))", "or(one(1), one(0))",
            "at(2, scale(least(buy(1), buy(2)), one(1)))", "until(less(buy(1), number(1)), at(2, one(1)))",
            "at(1, scale(greatest(minus(buy(1), sell(2)), number(1/2)), one(2)))")]
        source = random.Random(15)
        most = 0
        for branches, spread in (((2, 2), Fraction(1, 30)), ((6,), Fraction(0)), ((1, 1, 1, 1, 2), Fraction(1, 30)),
                                 ((1, 5), Fraction(1, 5))):
            market = random_market(source, 3, branches, spread, Fraction(0))
            self.assertEqual(len(moments(market)), 7)
            book = Book(market, (1000, 1))
            begin = time.perf_counter()
            deals = self.play(book, market, contracts)
            self.assertLess(time.perf_counter() - begin, 30)
            self.assertEqual(len(deals), 20)
            begin = time.perf_counter()
            self.assertEqual(state_of(replay(book.log)), state_of(book))
            self.assertLess(time.perf_counter() - begin, 30)
            most = max(most, book.log.count("choose"))
        self.assertGreater(most, 4)

    def test_64_ways(self):
        source = random.Random(16)
        choice = read_contract("give(or(one(1), one(2)))")
        market = random_market(source, 3, (1, 1), Fraction(1, 20), Fraction(0))
        book = Book(market, (1000, 1))
        begin = time.perf_counter()
        for _ in range(6):
            book.sell(choice, (0, 1))
        refused(self, TooLarge, book, lambda: book.sell(choice, (0, 1)))
        self.assertEqual(len(ways(market, all_of([choice] * 6), "giver")), 64)
        for number in range(6):
            book.choose(number, 1)
        book.settle()
        self.assertLess(time.perf_counter() - begin, 10)


class Needs(unittest.TestCase):
    def test_the_helper_of_these_tests(self):
        """Units that are held, and times, count in what is needed behind a moment."""
        self.assertEqual(needed(EVEN, (), ("one", 1), (Fraction(1),)), 0)
        self.assertEqual(needed(EVEN, (0,), ("at", 1, ("one", 1)), (Fraction(0),)), 3)
        self.assertEqual(needed(EVEN, (0,), ("at", 0, ("one", 1)), (Fraction(2),)), -6)
        self.assertEqual(needed(STEPS, (1,), ("at", 2, ("one", 1)), (Fraction(-1),)), 4)


if __name__ == "__main__":
    unittest.main()
