"""Point 1003: netted, flat and joined."""

import unittest
from itertools import product

from nolunch.netting import flat, joined, netted
from playing import ALL_CONTRACTS
from samples import is_plain

A = ("one", 0)
B = ("one", 1)
C = ("or", A, B)
NOTHING = ("nothing",)


def give(contract):
    return ("give", contract)


def both(first, second):
    return ("both", first, second)


class Netted(unittest.TestCase):
    def check(self, contracts, left):
        with self.subTest(contracts=contracts):
            found = netted(contracts)
            self.assertTrue(is_plain(found))
            self.assertEqual(found, left)

    def test_without_pairs(self):
        for contracts in ((), (A,), (A, A), (A, B, C, A), (give(A), B, give(A)), (give(A), give(A)),
                          (both(A, give(A)), both(give(A), A)), (NOTHING, NOTHING)):
            self.check(contracts, contracts)

    def test_pairs_in_both_orders(self):
        for one, other in ((A, give(A)), (give(A), A), (give(give(A)), give(A)),
                           (give(A), give(give(A))), (NOTHING, give(NOTHING)), (C, give(C))):
            self.check((one, other), ())
            self.check((B, one, both(A, B), other, B), (B, both(A, B), B))

    def test_the_same_one_several_times(self):
        self.check((A, A, give(A)), (A,))
        self.check((A, give(A), A), (A,))
        self.check((give(A), A, A), (A,))
        self.check((give(A), A, give(A)), (give(A),))
        self.check((A, A, give(A), give(A)), ())
        self.check((A, give(A), A, give(A), A), (A,))
        self.check((B, A, give(B), A, B, give(A), C), (A, B, C))

    def test_from_the_left_with_the_first_one_behind(self):
        # give(A) makes a pair with A or with give(give(A)), whichever comes first.
        self.check((A, give(A), give(give(A))), (give(give(A)),))
        self.check((give(A), give(give(A)), A), (A,))
        self.check((give(A), A, give(give(A))), (give(give(A)),))
        self.check((give(give(A)), A, give(A)), (A,))
        self.check((A, give(give(A)), give(A)), (give(give(A)),))
        self.check((give(give(give(A))), A, give(give(A)), give(A)), ())

    def test_only_whole_contracts_make_pairs(self):
        self.check((both(A, B), give(A), give(B)), (both(A, B), give(A), give(B)))
        self.check((A, give(both(A, NOTHING))), (A, give(both(A, NOTHING))))
        self.check((give(both(A, B)), both(A, B)), ())
        self.check((("or", A, B), give(("or", B, A))), (("or", A, B), give(("or", B, A))))

    def test_all_short_rows_against_the_words(self):
        for length in range(5):
            for contracts in product((A, give(A), give(give(A)), B, give(B)), repeat=length):
                self.assertEqual(netted(contracts), by_the_words(contracts))


def by_the_words(contracts):
    there = [True] * len(contracts)
    for k, one in enumerate(contracts):
        for j in range(k + 1, len(contracts)):
            if there[k] and there[j] and (one == give(contracts[j]) or contracts[j] == give(one)):
                there[k] = there[j] = False
    return tuple(each for each, still in zip(contracts, there) if still)


class Flat(unittest.TestCase):
    def check(self, contract, parts):
        with self.subTest(contract=contract):
            found = flat(contract)
            self.assertTrue(is_plain(found))
            self.assertEqual(found, parts)

    def test_the_example(self):
        self.check(("both", ("one", 1), ("give", ("both", ("one", 0), ("nothing",)))),
                   (("one", 1), ("give", ("one", 0))))

    def test_single_ones(self):
        for contract in (A, B, C, give(A), give(C), ("later", both(A, B)), ("at", 1, both(A, B)),
                         ("scale", ("number", (2, 1)), both(A, B)), give(("later", both(A, B))),
                         ("or", both(A, B), NOTHING), ("early", 2, NOTHING)):
            self.check(contract, (contract,))

    def test_nothing(self):
        for contract in (NOTHING, give(NOTHING), give(give(NOTHING)), give(give(give(NOTHING))),
                         both(NOTHING, NOTHING), give(both(NOTHING, give(NOTHING)))):
            self.check(contract, ())

    def test_boths_from_the_left(self):
        self.check(both(A, B), (A, B))
        self.check(both(both(A, B), C), (A, B, C))
        self.check(both(C, both(B, A)), (C, B, A))
        self.check(both(both(A, B), both(B, A)), (A, B, B, A))
        self.check(both(both(A, NOTHING), both(NOTHING, A)), (A, A))

    def test_gives(self):
        self.check(give(give(A)), (A,))
        self.check(give(give(give(A))), (give(A),))
        self.check(give(give(give(give(C)))), (C,))
        self.check(give(both(A, B)), (give(A), give(B)))
        self.check(give(give(both(A, B))), (A, B))
        self.check(give(both(give(A), both(B, give(both(C, A))))), (A, give(B), C, A))
        self.check(both(give(both(A, give(C))), give(give(B))), (give(A), C, B))

    def test_very_deep_ones(self):
        contract = A
        for _ in range(5000):
            contract = both(give(contract), NOTHING)
        self.assertEqual(flat(contract), (A,))
        self.assertEqual(flat(give(contract)), (give(A),))
        chain = A
        for _ in range(5000):
            chain = both(chain, B)
        self.assertEqual(flat(chain), (A,) + (B,) * 5000)


class Joined(unittest.TestCase):
    def test_none_one_and_several(self):
        self.assertEqual(joined(()), NOTHING)
        for contract in (A, C, NOTHING, both(A, B), give(A)):
            self.assertEqual(joined((contract,)), contract)
        self.assertEqual(joined((A, B)), both(A, B))
        self.assertEqual(joined((A, B, C)), both(both(A, B), C))
        self.assertEqual(joined((A, both(B, C), NOTHING, A)), both(both(both(A, both(B, C)), NOTHING), A))
        self.assertTrue(is_plain(joined((A, B, C))))

    def test_flat_is_the_way_back(self):
        some = tuple(each for each in ALL_CONTRACTS if flat(each) == (each,))
        self.assertGreater(len(some), 20)
        for many in (0, 1, 2, 5, len(some)):
            self.assertEqual(flat(joined(some[:many])), some[:many])


if __name__ == "__main__":
    unittest.main()
