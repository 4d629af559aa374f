"""Contracts that are played by the tests themselves, moment by moment, with what faced tells."""

from fractions import Fraction
from itertools import product

from linear import in_lowest_terms, numbers, pair
from nolunch.markets import nexts, price_of
from nolunch.ratios import compare
from nolunch.stepping import faced
from nolunch.texts import read_contract
from samples import is_plain, price

# From 2 to 3 or 1, without a spread, and with one.
EVEN = (2, ((price(2, 2),), (((price(3, 3),), ()), ((price(1, 1),), ()))))
SPREAD = (2, ((price(2, 1),), (((price(3, 2),), ()), ((price(1, 1),), ()))))
# Three times, without a spread: up and down by the half.
STEPS = (2, ((price(4, 4),), (((price(6, 6),), (((price(9, 9),), ()), ((price(3, 3),), ()))),
                              ((price(2, 2),), (((price(3, 3),), ()), ((price(1, 1),), ()))))))
# Three goods, seven moments, small spreads.
THREE = (3, ((((21, 5), (4, 1)), price(3, 3)), (
    ((price(6, 5), price(4, 3)), (((price(9, 8), price(5, 5)), ()), ((price(4, 3), price(2, 2)), ()))),
    ((price(3, 2), price(3, 2)), (((price(4, 4), price(1, 1)), ()), ((price(2, 1), price(5, 4)), ()))))))
FAIR_MARKETS = (EVEN, SPREAD, STEPS, THREE)


class Played:
    """All histories of a contract in a market: what they face, and what has been paid."""

    def __init__(self, market, contract):
        self.market = market
        self.places = {}
        self.paid = {}
        self._play((), (), contract, [Fraction(0)] * market[0])
        self.all = sorted(self.places)
        self.settled = [h for h in self.all if self.told(h)[0] == "pay"]
        self.whole = [h for h in self.settled if nexts(market, self.path(h)) == 0]

    def _play(self, history, path, contract, before):
        told = faced(self.market, path, contract)
        self.places[history] = (path, contract, told)
        if told[0] == "ask":
            self.paid[history] = before
            for option in (0, 1):
                self._play(history + (option,), path, told[2 + option], before)
        else:
            after = [a + b for a, b in zip(before, numbers(told[1]))]
            self.paid[history] = after
            for index in range(nexts(self.market, path)):
                self._play(history + (index,), path + (index,), told[2], after)

    def path(self, history):
        return self.places[history][0]

    def told(self, history):
        return self.places[history][2]

    def asked(self, history, side):
        return self.told(history)[:2] == ("ask", side)

    def goes_with(self, history, side, way):
        """Whether a history took the options of a way wherever the side was asked."""
        options = dict(way)
        return all(options.get(history[:k]) == history[k] for k in range(len(history))
                   if self.asked(history[:k], side))

    def ways(self, side):
        """All ways, by trying each option at each history that asks the side."""
        asking = [h for h in self.all if self.asked(h, side)]
        found = set()
        for options in product((0, 1), repeat=len(asking)):
            chosen = dict(zip(asking, options))
            found.add(tuple((h, chosen[h]) for h in asking
                            if all(chosen.get(h[:k], h[k]) == h[k] for k in range(len(h)))))
        return tuple(sorted(found))


def hold_fractions(test, items):
    for item in items:
        test.assertTrue(in_lowest_terms(item), item)


def held_at_the_end(played, history, money, trades):
    """What a giver holds at a whole history, who does the trades of all settled places on it."""
    held = [Fraction(*money)] + [Fraction(0)] * (played.market[0] - 1)
    for k in range(len(history) + 1):
        told = played.told(history[:k])
        if told[0] == "pay":
            for good, amount in enumerate(trades.get(history[:k], ()), 1):
                buy, sell = price_of(played.market, played.path(history[:k]), good)
                units = Fraction(*amount)
                held[0] -= units * Fraction(*(buy if units > 0 else sell))
                held[good] += units
            held = [had - amount for had, amount in zip(held, numbers(told[1]))]
    return held


def hold_hedge(test, played, hedge):
    """Hold a hedge against point 801: its form, and each whole history that goes with its way."""
    money, way, trades = hedge
    hold_fractions(test, (money,))
    histories = [history for history, _ in trades]
    test.assertEqual(histories, sorted(set(histories)))
    for history, amounts in trades:
        test.assertIn(history, played.settled)
        test.assertTrue(played.goes_with(history, "giver", way))
        test.assertEqual(len(amounts), played.market[0] - 1)
        hold_fractions(test, amounts)
    whole = [h for h in played.whole if played.goes_with(h, "giver", way)]
    test.assertTrue(whole)
    for history in whole:
        held = held_at_the_end(played, history, money, dict(trades))
        test.assertTrue(all(number >= 0 for number in held), (history, held))


def hold_bound(test, played, way, bound):
    """Hold a bound against each sentence of point 802, and return its worth."""
    whole = [h for h in played.whole if played.goes_with(h, "giver", way)]
    test.assertEqual([history for history, _ in bound], whole)
    rows = {}
    for history, row in bound:
        test.assertEqual(len(row), played.market[0])
        hold_fractions(test, row)
        rows[history] = numbers(row)
    test.assertTrue(all(number >= 0 for row in rows.values() for number in row))
    test.assertEqual(sum(row[0] for row in rows.values()), 1)
    for settled in played.settled:
        if played.goes_with(settled, "giver", way):
            behind = [row for h, row in rows.items() if h[:len(settled)] == settled]
            money = sum(row[0] for row in behind)
            for good in range(1, played.market[0]):
                buy, sell = price_of(played.market, played.path(settled), good)
                number = sum(row[good] for row in behind)
                test.assertLessEqual(Fraction(*sell) * money, number)
                test.assertLessEqual(number, Fraction(*buy) * money)
    return sum(a * b for h, row in rows.items() for a, b in zip(row, played.paid[h]))


def hold_cost(test, market, contract, told, ways=None):
    """Hold what cost tells against point 803; so no other money is right.

    ways are those of the giver, where there are too many to find them by trying.
    """
    played = Played(market, contract)
    test.assertTrue(is_plain(told))
    money, hedge, bounds = told
    test.assertEqual(hedge[0], money)
    hold_hedge(test, played, hedge)
    ways = played.ways("giver") if ways is None else ways
    test.assertIn(hedge[1], ways)
    test.assertEqual(tuple(way for way, _ in bounds), ways)
    worths = [hold_bound(test, played, way, bound) for way, bound in bounds]
    test.assertEqual(min(worths), Fraction(*money))
    return worths


def either(one, other):
    """A contract in which the giver chooses between two."""
    return ("give", ("or", ("give", one), ("give", other)))


def scaled(number, contract):
    return ("scale", ("number", pair(number)), contract)


# Contracts for two goods, by the sides that have choices, with at most 10 asks of a side in
# markets of seven moments.
TEXTS = {
    "none": ("nothing", "one(0)", "one(1)", "scale(number(-3/2), one(1))", "at(1, one(1))",
             "later(scale(greatest(minus(buy(1), number(3/2)), number(0)), one(0)))",
             "both(one(1), give(later(one(1))))", "until(less(number(2), buy(1)), later(one(1)))",
             "when(less(number(2), buy(1)), one(1))", "scale(sell(1), later(one(1)))",
             "at(1, scale(minus(buy(1), number(2)), one(1)))"),
    "holder": ("or(one(0), one(1))", "early(1, one(1))", "early(2, scale(sell(1), one(0)))",
               "at(1, or(nothing, both(one(1), give(scale(number(2), one(0))))))",
               "scale(number(-1), or(one(0), one(1)))", "later(early(1, scale(number(2), one(1))))",
               "or(at(1, or(one(0), one(1))), scale(number(3/2), one(0)))",
               "until(less(buy(1), number(2)), early(2, scale(number(3), one(0))))"),
    "giver": ("give(or(one(0), one(1)))", "give(early(1, give(one(1))))", "give(early(2, one(1)))",
              "at(1, give(or(give(one(1)), give(scale(number(2), one(0))))))",
              "scale(number(-1), give(or(one(0), one(1))))",
              "give(or(at(1, or(one(0), one(1))), nothing))"),
    "both": ("both(or(one(0), one(1)), give(or(one(0), one(1))))",
             "both(give(early(1, one(1))), early(1, one(1)))",
             "or(give(or(give(one(0)), give(one(1)))), at(1, or(one(0), one(1))))",
             "early(1, give(or(give(one(1)), give(scale(number(2), one(0))))))",
             "give(or(early(1, give(one(1))), give(scale(number(3/2), one(1)))))",
             "at(1, both(or(one(1), one(0)), give(or(one(1), one(0)))))"),
}
CONTRACTS = {kind: tuple(read_contract(text) for text in texts) for kind, texts in TEXTS.items()}
ALL_CONTRACTS = tuple(contract for some in CONTRACTS.values() for contract in some)


def less_or_same(a, b):
    return compare(a, b) <= 0
