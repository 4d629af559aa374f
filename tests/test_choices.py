"""Points 701 and 702: the ways of each side, and the settled histories that go with them."""

import unittest

from nolunch.choices import SETTLED_LIMIT, WAY_LIMIT, settled_with, ways
from nolunch.errors import ContractError, TooLarge, WayError
from nolunch.texts import read_contract
from playing import ALL_CONTRACTS, FAIR_MARKETS, Played
from samples import EXAMPLE, LINE, MONEY_ALONE, check_market_errors, is_plain, star
from test_contracts import NOTHING, nested
from test_histories import ors

SIDES = ("giver", "holder")
# Choices of one side that decide whether a later one of the same or of the other side comes about.
DECIDING = tuple(read_contract(text) for text in (
    "or(one(0), or(one(1), nothing))",
    "or(or(one(0), nothing), at(1, or(one(1), nothing)))",
    "or(give(or(one(0), nothing)), one(0))",
    "give(or(or(one(0), nothing), give(or(one(0), nothing))))",
    "give(or(at(1, or(one(0), nothing)), at(1, give(or(one(1), nothing)))))",
    "early(2, give(early(1, one(1))))",
    "both(early(1, one(1)), give(early(1, one(0))))",
    "both(or(nothing, give(or(one(0), nothing))), give(or(nothing, or(one(0), nothing))))",
    "until(less(buy(1), number(2)), both(or(one(0), nothing), later(or(one(0), nothing))))",
    "when(less(number(2), buy(1)), give(or(one(0), give(or(one(0), nothing)))))"))


def given(contract):
    return ("give", contract)


class Ways(unittest.TestCase):
    def test_limits(self):
        self.assertEqual((WAY_LIMIT, SETTLED_LIMIT), (64, 200))

    def test_no_choices(self):
        for contract in (NOTHING, ("one", 0), ("at", 1, ("one", 1)), ("later", ("one", 0))):
            for side in SIDES:
                self.assertEqual(ways(EXAMPLE, contract, side), ((),))

    def test_known_ones(self):
        contract = read_contract("or(one(0), one(1))")
        self.assertEqual(ways(EXAMPLE, contract, "holder"), ((((), 0),), (((), 1),)))
        self.assertEqual(ways(EXAMPLE, contract, "giver"), ((),))
        self.assertEqual(ways(EXAMPLE, given(contract), "giver"), ((((), 0),), (((), 1),)))
        self.assertEqual(ways(EXAMPLE, given(contract), "holder"), ((),))
        # A second choice that comes about with the second option alone.
        self.assertEqual(ways(EXAMPLE, DECIDING[0], "holder"),
                         ((((), 0),), (((), 1), ((1,), 0)), (((), 1), ((1,), 1))))
        # One behind each next moment: all are to be told.
        asked = ("at", 1, contract)
        self.assertEqual(ways(EXAMPLE, asked, "holder"),
                         tuple((((0,), a), ((1,), b)) for a in (0, 1) for b in (0, 1)))
        # The other side's choices are all free.
        self.assertEqual(ways(EXAMPLE, DECIDING[2], "giver"), ((((0,), 0),), (((0,), 1),)))
        self.assertEqual(ways(EXAMPLE, DECIDING[2], "holder"), ((((), 0),), (((), 1),)))
        self.assertEqual(ways(EXAMPLE, read_contract("early(1, one(0))"), "holder"), (
            (((), 0),),) + tuple((((), 1), ((1, 0), a), ((1, 1), b)) for a in (0, 1) for b in (0, 1)))

    def test_against_all_options_tried(self):
        for market in FAIR_MARKETS + (EXAMPLE, LINE):
            for contract in ALL_CONTRACTS + DECIDING:
                played = Played(market, contract)
                for side in SIDES:
                    asking = sum(played.asked(history, side) for history in played.all)
                    if asking > 10:
                        continue
                    with self.subTest(contract=contract, side=side):
                        if len(played.ways(side)) > 64:
                            self.assertRaises(TooLarge, ways, market, contract, side)
                            continue
                        found = ways(market, contract, side)
                        self.assertTrue(is_plain(found))
                        self.assertEqual(found, tuple(sorted(found)))
                        self.assertEqual(found, played.ways(side))
                        self.assertEqual(ways(market, given(contract), SIDES[side == "giver"]), found)

    def test_64_ways_and_more(self):
        six = (1, star(6))
        asked = ("at", 1, ("or", NOTHING, NOTHING))
        self.assertEqual(len(ways(six, asked, "holder")), 64)
        self.assertEqual(len(ways(six, given(asked), "giver")), 64)
        self.assertEqual(ways(six, asked, "giver"), ((),))
        more = ("or", asked, NOTHING)
        self.assertRaises(TooLarge, ways, six, more, "holder")
        self.assertRaises(TooLarge, ways, six, given(more), "giver")
        self.assertEqual(ways(six, more, "giver"), ((),))
        self.assertEqual(ways(six, given(more), "holder"), ((),))
        # 8 times 8 ways, and one more.
        square = ("both", ors(8), ors(8))
        self.assertEqual(len(ways(MONEY_ALONE, square, "holder")), 64)
        self.assertRaises(TooLarge, ways, MONEY_ALONE, ("or", NOTHING, square), "holder")
        self.assertRaises(TooLarge, ways, (1, star(7)), asked, "holder")
        self.assertRaises(TooLarge, ways, (1, star(39)), asked, "holder")
        self.assertEqual(len(ways((1, star(39)), asked, "giver")), 1)

    def test_200_settled_histories_and_more(self):
        # 5 places and 39 ends behind each.
        for side in SIDES:
            for contract in (ors(5), given(ors(5))):
                told = ways((1, star(39)), contract, side)
                self.assertEqual(len(told), 5 if (contract[0] == "or") == (side == "holder") else 1)
                self.assertRaises(TooLarge, ways, (1, star(39)), ("or", contract, NOTHING), side)
        # One place, and 8 behind each of 25 ends.
        self.assertEqual(len(Played((1, star(25)), ("at", 1, ors(8))).settled), 201)
        self.assertRaises(TooLarge, ways, (1, star(25)), ("at", 1, ors(8)), "giver")
        self.assertEqual(ways((1, star(24)), ("at", 1, ors(8)), "giver"), ((),))

    def test_unsettled_histories_do_not_count(self):
        # 4 asks and 200 settled: 204 in all.
        self.assertEqual(len(Played((1, star(39)), ors(5)).all), 204)
        self.assertEqual(len(ways((1, star(39)), ors(5), "holder")), 5)

    def test_far_too_many(self):
        many = NOTHING
        for _ in range(8):
            many = ("both", ("early", 5, NOTHING), many)
        for side in SIDES:
            self.assertRaises(TooLarge, ways, EXAMPLE, many, side)
            self.assertRaises(TooLarge, ways, EXAMPLE, ("both", ors(10), ors(10)), "holder")

    def test_sides_that_are_none(self):
        for side in ("", "Giver", "givers", "holder ", "both", "nobody", "give"):
            self.assertRaises(WayError, ways, EXAMPLE, NOTHING, side)
            # The side is looked at behind the contract and ahead of the sizes.
            self.assertRaises(WayError, ways, (1, star(39)), ors(6), side)
            self.assertRaises(ContractError, ways, EXAMPLE, ("one", 2), side)

    def test_errors_of_the_contract(self):
        for contract in (("one", 2), ("at", -1, NOTHING), nested("later", 20),
                         ("both", ("one", -1), ors(19))):
            for side in SIDES + ("nobody",):
                self.assertRaises(ContractError, ways, EXAMPLE, contract, side)

    def test_errors_of_the_market_come_first(self):
        check_market_errors(self, lambda market: ways(market, ("one", 9), "nobody"))


class SettledWith(unittest.TestCase):
    def test_known_ones(self):
        contract = read_contract("early(1, one(0))")
        self.assertEqual(settled_with(EXAMPLE, contract, "holder", (((), 0),)), ((0,), (0, 0), (0, 1)))
        self.assertEqual(settled_with(EXAMPLE, contract, "holder", (((), 1), ((1, 0), 0), ((1, 1), 1))),
                         ((1,), (1, 0, 0), (1, 1, 1)))
        self.assertEqual(settled_with(EXAMPLE, contract, "giver", ()),
                         ((0,), (0, 0), (0, 1), (1,), (1, 0, 0), (1, 0, 1), (1, 1, 0), (1, 1, 1)))
        self.assertEqual(settled_with(MONEY_ALONE, NOTHING, "holder", ()), ((),))

    def test_each_way(self):
        for market in FAIR_MARKETS + (EXAMPLE, LINE):
            for contract in ALL_CONTRACTS + DECIDING:
                played = Played(market, contract)
                for side in SIDES:
                    if sum(played.asked(history, side) for history in played.all) > 5:
                        continue
                    for way in played.ways(side):
                        found = settled_with(market, contract, side, way)
                        self.assertTrue(is_plain(found))
                        self.assertEqual(found, tuple(
                            h for h in played.settled if played.goes_with(h, side, way)))

    def test_ways_that_are_none(self):
        contract = DECIDING[0]
        right = (((), 1), ((1,), 0))
        self.assertEqual(settled_with(EXAMPLE, contract, "holder", right), ((1, 0), (1, 0, 0), (1, 0, 1)))
        for way in ((), (((), 1),), (((), 0), ((1,), 0)), (((), 2),), (((), -1),), (((0,), 0),),
                    right[::-1], right + right[1:], right + (((1, 0), 0),), (((), 1), ((0,), 0)),
                    (((), 1), ((1,), 2))):
            with self.subTest(way=way):
                self.assertRaises(WayError, settled_with, EXAMPLE, contract, "holder", way)
        self.assertRaises(WayError, settled_with, EXAMPLE, contract, "giver", right)
        self.assertRaises(WayError, settled_with, EXAMPLE, NOTHING, "giver", (((), 0),))

    def test_the_order_of_errors(self):
        none = (((9,), 9),)
        self.assertRaises(WayError, settled_with, EXAMPLE, NOTHING, "nobody", ())
        # The side ahead of what is too large, the way behind it.
        self.assertRaises(WayError, settled_with, (1, star(39)), ors(6), "nobody", none)
        self.assertRaises(TooLarge, settled_with, (1, star(39)), ors(6), "giver", none)
        self.assertRaises(TooLarge, settled_with, (1, star(7)), ("at", 1, ors(2)), "holder", none)
        self.assertRaises(ContractError, settled_with, EXAMPLE, ("one", 2), "nobody", none)
        check_market_errors(self, lambda market: settled_with(market, ("one", 9), "nobody", none))


if __name__ == "__main__":
    unittest.main()
