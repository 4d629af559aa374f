"""Points 603 and 604: places, what has been paid on the way, and whole histories."""

import unittest

from linear import pair
from nolunch.errors import ContractError, HistoryError, TooLarge
from nolunch.histories import paid, place_of, whole_histories
from nolunch.texts import read_contract
from playing import ALL_CONTRACTS, FAIR_MARKETS, Played
from samples import (EXAMPLE, LINE, MONEY_ALONE, MONEY_TREE, WIDE, chain, check_market_errors,
                     is_plain, star, whole)
from test_contracts import nested

NOTHING = ("nothing",)


def ors(many):
    """A contract that asks the holder with so many settled places, nested as little as can be."""
    if many == 1:
        return NOTHING
    return ("or", ors(many - many // 2), ors(many // 2))


class Places(unittest.TestCase):
    def test_known_places(self):
        contract = read_contract("both(or(one(0), one(1)), later(give(or(one(1), nothing))))")
        chosen = read_contract("both(one(1), later(give(or(one(1), nothing))))")
        left = read_contract("both(nothing, give(or(one(1), nothing)))")
        given = read_contract("both(nothing, give(one(1)))")
        for history, path, there, amounts in (
                ((), (), contract, (0, 0)), ((1,), (), chosen, (0, 1)), ((1, 0), (0,), left, (0, 1)),
                ((1, 1), (1,), left, (0, 1)), ((1, 1, 0), (1,), given, (0, 0)),
                ((1, 0, 1), (0,), read_contract("both(nothing, give(nothing))"), (0, 1))):
            with self.subTest(history=history):
                self.assertEqual(place_of(EXAMPLE, contract, history), (path, there))
                self.assertEqual(paid(EXAMPLE, contract, history), tuple(map(whole, amounts)))

    def test_all_histories_of_many_contracts(self):
        for market in FAIR_MARKETS + (EXAMPLE, LINE):
            for contract in ALL_CONTRACTS:
                played = Played(market, contract)
                for history in played.all:
                    path, there, _ = played.places[history]
                    found = place_of(market, contract, history)
                    amounts = paid(market, contract, history)
                    self.assertTrue(is_plain(found) and is_plain(amounts))
                    self.assertEqual(found, (path, there))
                    self.assertEqual(amounts, tuple(pair(number) for number in played.paid[history]))

    def test_what_is_paid_at_each_moment(self):
        contract = read_contract("both(one(0), later(both(scale(buy(1), one(0)), later(one(1)))))")
        self.assertEqual(paid(LINE, contract, ()), (whole(1), whole(0), whole(0)))
        self.assertEqual(paid(LINE, contract, (0,)), (whole(7), whole(0), whole(0)))
        self.assertEqual(paid(LINE, contract, (0, 0)), (whole(7), whole(1), whole(0)))

    def test_what_is_paid_where_the_history_ends_with_an_ask(self):
        contract = read_contract("both(one(0), at(1, or(one(1), nothing)))")
        self.assertEqual(paid(EXAMPLE, contract, ()), (whole(1), whole(0)))
        self.assertEqual(paid(EXAMPLE, contract, (0,)), (whole(1), whole(0)))
        self.assertEqual(paid(EXAMPLE, contract, (0, 0)), (whole(1), whole(1)))
        asking = read_contract("both(one(0), or(one(1), nothing))")
        self.assertEqual(paid(EXAMPLE, asking, ()), (whole(0), whole(0)))

    def test_numbers_that_do_not_fit(self):
        contract = read_contract("both(or(one(0), one(1)), later(give(or(one(1), nothing))))")
        for call in (place_of, paid):
            for history in ((2,), (-1,), (3,), (0, 2), (0, -1), (1, 5), (0, 0, 2), (0, 0, -1),
                            (2, 0), (-1, 0), (0, 2, 0), (0, 0, 2, 0)):
                with self.subTest(call=call, history=history):
                    self.assertRaises(HistoryError, call, EXAMPLE, contract, history)

    def test_histories_that_go_on_behind_an_end(self):
        contract = read_contract("both(or(one(0), one(1)), later(give(or(one(1), nothing))))")
        for call in (place_of, paid):
            for number in (0, 1, -1):
                self.assertRaises(HistoryError, call, EXAMPLE, contract, (0, 0, 0, number))
                self.assertRaises(HistoryError, call, EXAMPLE, NOTHING, (0, number))
                self.assertRaises(HistoryError, call, MONEY_ALONE, ("later", ("one", 0)), (number,))
            self.assertRaises(HistoryError, call, EXAMPLE, ("one", 0), (0,) * 50)

    def test_more_next_moments_than_options(self):
        market = (1, star(5))
        asking = ("or", NOTHING, NOTHING)
        self.assertEqual(place_of(market, NOTHING, (4,)), ((4,), NOTHING))
        self.assertRaises(HistoryError, place_of, market, NOTHING, (5,))
        self.assertRaises(HistoryError, place_of, market, asking, (2,))
        self.assertEqual(place_of(market, asking, (1, 4)), ((4,), NOTHING))
        alone = (1, ((), (((), ()),)))
        self.assertEqual(place_of(alone, asking, (1, 0)), ((0,), NOTHING))
        self.assertRaises(HistoryError, place_of, alone, NOTHING, (1,))

    def test_errors_of_the_contract(self):
        for call in (place_of, paid):
            for contract in (("one", 2), ("at", -1, NOTHING), nested("later", 20)):
                self.assertRaises(ContractError, call, EXAMPLE, contract, (7,))
                self.assertRaises(ContractError, call, EXAMPLE, contract, ())

    def test_errors_of_the_market_come_first(self):
        check_market_errors(self, lambda market: place_of(market, ("one", 9), (7,)))
        check_market_errors(self, lambda market: paid(market, ("one", 9), (7,)))


class WholeHistories(unittest.TestCase):
    def test_known_ones(self):
        self.assertEqual(whole_histories(EXAMPLE, NOTHING), ((0,), (1,)))
        self.assertEqual(whole_histories(MONEY_ALONE, NOTHING), ((),))
        self.assertEqual(whole_histories(MONEY_ALONE, ("or", NOTHING, NOTHING)), ((0,), (1,)))
        self.assertEqual(whole_histories(LINE, ("at", 1, ("or", NOTHING, NOTHING))),
                         ((0, 0, 0), (0, 1, 0)))
        self.assertEqual(whole_histories(EXAMPLE, read_contract("early(1, one(0))")),
                         ((0, 0), (0, 1), (1, 0, 0), (1, 0, 1), (1, 1, 0), (1, 1, 1)))
        self.assertEqual(whole_histories(EXAMPLE, read_contract(
            "when(less(number(2), buy(1)), or(one(0), give(or(one(0), nothing))))")),
                         ((0, 0), (0, 1, 0), (0, 1, 1), (1,)))

    def test_against_own_play(self):
        for market in FAIR_MARKETS + (EXAMPLE, LINE):
            for contract in ALL_CONTRACTS:
                found = whole_histories(market, contract)
                self.assertTrue(is_plain(found))
                self.assertEqual(found, tuple(Played(market, contract).whole))
        self.assertEqual(whole_histories(WIDE, NOTHING), ((0, 0), (0, 1), (1, 0), (1, 1)))
        self.assertEqual(whole_histories(MONEY_TREE, NOTHING), ((0, 0), (1, 0), (1, 1)))

    def test_the_bound(self):
        asking = ("at", 1, ("or", NOTHING, NOTHING))
        # 12 asks and 13 settled places, 25 ends behind each of these, of which those behind one
        # place ask: 25 + 13 * 25 + 2 * 25.
        self.assertEqual(len(Played((1, star(25)), ("or", ors(12), asking)).all), 400)
        self.assertEqual(len(whole_histories((1, star(25)), ("or", ors(12), asking))), 350)
        # 10 asks and 11 settled places, 20 ends behind each, of which those behind four ask.
        contract = ("or", ors(7), ("or", ("or", asking, asking), ("or", asking, asking)))
        self.assertEqual(len(Played((1, star(20)), contract).all), 401)
        self.assertRaises(TooLarge, whole_histories, (1, star(20)), contract)

    def test_all_histories_count(self):
        # 18 asks, 19 settled places, 361 ends; then 19, 20 and 380, of which no kind alone is too much.
        self.assertEqual(len(whole_histories((1, star(19)), ors(19))), 361)
        self.assertRaises(TooLarge, whole_histories, (1, star(19)), ors(20))
        self.assertEqual(len(whole_histories((1, star(39)), ors(9))), 351)
        self.assertRaises(TooLarge, whole_histories, (1, star(39)), ors(10))

    def test_far_too_many(self):
        many = ors(8)
        for _ in range(2):
            many = ("both", many, ors(4))
        self.assertRaises(TooLarge, whole_histories, (1, star(39)), many)
        twice = ("both", NOTHING, NOTHING)
        for _ in range(6):
            twice = ("both", ("early", 5, NOTHING), twice)
        self.assertRaises(TooLarge, whole_histories, (1, chain(5)), twice)

    def test_errors_of_the_contract(self):
        for contract in (("one", 2), ("at", -1, NOTHING), nested("later", 20),
                         ("both", ("one", -1), ors(19))):
            self.assertRaises(ContractError, whole_histories, EXAMPLE, contract)
        self.assertRaises(ContractError, whole_histories, (1, star(39)), ("both", ("one", 1), ors(15)))

    def test_errors_of_the_market_come_first(self):
        check_market_errors(self, lambda market: whole_histories(market, ("one", 9)))
        self.assertRaises(TooLarge, whole_histories, (1, chain(6)), ors(2))


if __name__ == "__main__":
    unittest.main()
