"""Points 501, 502 and 503: the parts of contracts, their number, their depth, and what is none."""

import unittest

from nolunch.contracts import DEPTH_LIMIT, PART_LIMIT, check_contract, depth_of, size_of
from nolunch.errors import ContractError

NOTHING = ("nothing",)
NUMBER = ("number", (1, 2))
LESS = ("less", NUMBER, ("buy", 0))

# A part of each kind, with its size and its depth.
SIZES = (
    (NUMBER, 1, 1), (("buy", 0), 1, 1), (("sell", 1), 1, 1),
    (("plus", NUMBER, NUMBER), 3, 2), (("minus", ("buy", 0), NUMBER), 3, 2),
    (("times", ("plus", NUMBER, NUMBER), NUMBER), 5, 3),
    (("least", NUMBER, ("minus", NUMBER, NUMBER)), 5, 3),
    (("greatest", ("sell", 0), NUMBER), 3, 2),
    (LESS, 3, 2), (("same", NUMBER, NUMBER), 3, 2), (("not", LESS), 4, 3),
    (("and", LESS, ("not", LESS)), 8, 4),
    (NOTHING, 1, 1), (("one", 0), 1, 1), (("scale", NUMBER, NOTHING), 3, 2),
    (("scale", ("plus", NUMBER, NUMBER), ("one", 1)), 5, 3),
    (("both", NOTHING, ("one", 0)), 3, 2), (("both", NOTHING, ("give", NOTHING)), 4, 3),
    (("give", NOTHING), 2, 2), (("or", ("one", 1), NOTHING), 3, 2),
    (("at", 3, NOTHING), 2, 2), (("at", 0, ("give", ("one", 0))), 3, 3),
    (("when", LESS, NOTHING), 5, 3), (("until", ("not", LESS), NOTHING), 6, 4),
    (("early", 2, NOTHING), 2, 2), (("later", ("both", NOTHING, NOTHING)), 4, 3),
)


def nested(word, many):
    """A contract in so many parts with one contract each: one more deep, one more parts."""
    contract = NOTHING
    for _ in range(many):
        contract = (word, contract)
    return contract


def row_of(many):
    """A contract of 2 many - 1 parts that is nested as little as can be."""
    contracts = [NOTHING] * many
    while len(contracts) > 1:
        pairs = [("both", a, b) for a, b in zip(contracts[::2], contracts[1::2])]
        contracts = pairs + contracts[len(contracts) // 2 * 2:]
    return contracts[0]


def with_good(good):
    """Contracts that have a good in each of the places where one may stand."""
    values = [("buy", good), ("sell", good)]
    values += [(word, *pair) for word in ("plus", "minus", "times", "least", "greatest")
               for pair in ((("buy", good), NUMBER), (NUMBER, ("sell", good)))]
    values.append(("plus", NUMBER, ("times", ("minus", ("buy", good), NUMBER), NUMBER)))
    conditions = [(word, *pair) for word in ("less", "same")
                  for value in values for pair in ((value, NUMBER), (NUMBER, value))]
    conditions += [("not", conditions[0]), ("and", conditions[1], LESS), ("and", LESS, conditions[1]),
                   ("not", ("and", LESS, ("not", conditions[0])))]
    contracts = [("one", good)]
    contracts += [("scale", value, NOTHING) for value in values]
    contracts += [(word, condition, NOTHING) for word in ("when", "until") for condition in conditions]
    return contracts + holding(("one", good))


def holding(inner):
    """Contracts in each part of which, where one may stand, an inner contract stands."""
    return [("scale", NUMBER, inner), ("both", inner, NOTHING), ("both", NOTHING, inner),
            ("give", inner), ("or", inner, NOTHING), ("or", NOTHING, inner), ("at", 1, inner),
            ("when", LESS, inner), ("until", LESS, inner), ("early", 0, inner), ("later", inner)]


class Sizes(unittest.TestCase):
    def test_limits(self):
        self.assertEqual((PART_LIMIT, DEPTH_LIMIT), (40, 20))

    def test_each_kind_of_part(self):
        for part, size, depth in SIZES:
            with self.subTest(part=part):
                self.assertEqual(size_of(part), size)
                self.assertEqual(depth_of(part), depth)

    def test_the_deepest_part_counts_wherever_it_stands(self):
        for inner in holding(nested("give", 6)):
            self.assertEqual(depth_of(inner), 8)

    def test_far_beyond_the_limits(self):
        for many in (40, 300, 5000):
            self.assertEqual(size_of(nested("give", many)), many + 1)
            self.assertEqual(depth_of(nested("later", many)), many + 1)
        self.assertEqual(size_of(row_of(3000)), 5999)
        value = NUMBER
        condition = LESS
        for _ in range(3000):
            value = ("plus", NUMBER, value)
            condition = ("not", condition)
        self.assertEqual(size_of(("scale", value, NOTHING)), 6003)
        self.assertEqual(depth_of(("scale", value, NOTHING)), 3002)
        self.assertEqual(depth_of(("when", condition, NOTHING)), 3003)


class CheckContract(unittest.TestCase):
    def check_error(self, goods, contract):
        self.assertRaises(ContractError, check_contract, goods, contract)

    def test_each_kind_of_contract(self):
        for part, _, _ in SIZES[12:]:
            self.assertIsNone(check_contract(2, part))

    def test_goods(self):
        for goods in (1, 2, 3, 4):
            for good, fits in ((0, True), (goods - 1, True), (goods, False), (-1, False),
                               (-goods, False), (goods + 7, False)):
                for contract in with_good(good):
                    with self.subTest(goods=goods, contract=contract):
                        if fits:
                            self.assertIsNone(check_contract(goods, contract))
                        else:
                            self.check_error(goods, contract)

    def test_times(self):
        for word in ("at", "early"):
            for time in (0, 1, 5, 6, 100, 10 ** 12):
                self.assertIsNone(check_contract(1, (word, time, NOTHING)))
            for time in (-1, -2, -10 ** 12):
                self.check_error(1, (word, time, NOTHING))
                for contract in holding((word, time, NOTHING)):
                    self.check_error(1, contract)

    def test_parts(self):
        self.assertEqual(size_of(row_of(20)), 39)
        self.assertIsNone(check_contract(1, row_of(20)))
        self.assertIsNone(check_contract(1, ("give", row_of(20))))
        self.check_error(1, ("give", ("give", row_of(20))))
        self.check_error(1, row_of(21))
        self.check_error(1, row_of(3000))

    def test_parts_of_values_and_conditions_count(self):
        def many(parts):
            """A value or condition of so many parts, an odd number, and not deep."""
            values = [NUMBER] * ((parts + 1) // 2)
            while len(values) > 1:
                values = [("plus", a, b) for a, b in zip(values[::2], values[1::2])] + \
                    values[len(values) // 2 * 2:]
            return values[0]
        self.assertIsNone(check_contract(1, ("give", ("scale", many(37), NOTHING))))
        self.check_error(1, ("scale", many(39), NOTHING))
        self.check_error(1, ("give", ("give", ("scale", many(37), NOTHING))))
        self.assertIsNone(check_contract(1, ("when", ("less", many(35), NUMBER), ("give", NOTHING))))
        self.check_error(1, ("when", ("not", ("less", many(35), NUMBER)), ("give", NOTHING)))

    def test_depth(self):
        self.assertEqual(depth_of(nested("give", 19)), 20)
        self.assertIsNone(check_contract(1, nested("give", 19)))
        self.check_error(1, nested("give", 20))
        self.check_error(1, nested("later", 39))
        value = NUMBER
        for _ in range(18):
            value = ("plus", value, NUMBER)
        self.assertEqual(depth_of(value), 19)
        self.assertIsNone(check_contract(1, ("scale", value, NOTHING)))
        self.check_error(1, ("give", ("scale", value, NOTHING)))
        condition = LESS
        for _ in range(17):
            condition = ("not", condition)
        self.assertEqual(depth_of(condition), 19)
        self.assertIsNone(check_contract(1, ("until", condition, NOTHING)))
        self.check_error(1, ("until", ("not", condition), NOTHING))

    def test_far_deeper(self):
        for many in (100, 2000, 20000):
            self.check_error(4, nested("give", many))
        value = ("buy", 9)
        for _ in range(5000):
            value = ("times", value, NUMBER)
        self.check_error(1, ("scale", value, NOTHING))

    def test_contracts_that_double_at_each_depth(self):
        contract = NOTHING
        for _ in range(200):
            contract = ("both", contract, contract)
        self.check_error(1, contract)


if __name__ == "__main__":
    unittest.main()
