"""Point 504: the texts of contracts."""

import unittest

from nolunch.contracts import depth_of
from nolunch.errors import TextError
from nolunch.texts import read_contract, write_contract
from samples import is_plain
from test_contracts import NOTHING, holding, nested, row_of, with_good

TEXTS = {
    "nothing": NOTHING,
    "one(0)": ("one", 0),
    "scale(greatest(minus(buy(1), number(3/2)), number(0)), one(0))":
        ("scale", ("greatest", ("minus", ("buy", 1), ("number", (3, 2))), ("number", (0, 1))),
         ("one", 0)),
    "scale(number(-7), nothing)": ("scale", ("number", (-7, 1)), NOTHING),
    "scale(number(-7/12), nothing)": ("scale", ("number", (-7, 12)), NOTHING),
    "scale(sell(2), one(1))": ("scale", ("sell", 2), ("one", 1)),
    "scale(plus(times(buy(0), sell(0)), least(number(1), number(2))), nothing)":
        ("scale", ("plus", ("times", ("buy", 0), ("sell", 0)),
                   ("least", ("number", (1, 1)), ("number", (2, 1)))), NOTHING),
    "both(one(0), one(1))": ("both", ("one", 0), ("one", 1)),
    "both(both(nothing, one(0)), nothing)": ("both", ("both", NOTHING, ("one", 0)), NOTHING),
    "give(nothing)": ("give", NOTHING),
    "or(nothing, one(3))": ("or", NOTHING, ("one", 3)),
    "at(2, give(one(1)))": ("at", 2, ("give", ("one", 1))),
    "at(0, nothing)": ("at", 0, NOTHING),
    "when(less(buy(1), number(2)), one(0))":
        ("when", ("less", ("buy", 1), ("number", (2, 1))), ("one", 0)),
    "until(not(same(buy(1), sell(1))), one(0))":
        ("until", ("not", ("same", ("buy", 1), ("sell", 1))), ("one", 0)),
    "when(and(less(buy(0), buy(1)), not(less(buy(1), buy(2)))), nothing)":
        ("when", ("and", ("less", ("buy", 0), ("buy", 1)),
                  ("not", ("less", ("buy", 1), ("buy", 2)))), NOTHING),
    "early(4, one(0))": ("early", 4, ("one", 0)),
    "later(later(nothing))": ("later", ("later", NOTHING)),
    "one(-1)": ("one", -1),
    "at(-3, early(-12, nothing))": ("at", -3, ("early", -12, NOTHING)),
    "one(999999999)": ("one", 999999999),
    "one(-999999999)": ("one", -999999999),
    "at(123456789, nothing)": ("at", 123456789, NOTHING),
    "scale(buy(-2), one(10))": ("scale", ("buy", -2), ("one", 10)),
    "scale(number(12345678901234567890/7), nothing)":
        ("scale", ("number", (12345678901234567890, 7)), NOTHING),
}


class Both(unittest.TestCase):
    def test_known_texts(self):
        for text, contract in TEXTS.items():
            with self.subTest(text=text):
                self.assertEqual(write_contract(contract), text)
                read = read_contract(text)
                self.assertEqual(read, contract)
                self.assertTrue(is_plain(read))

    def test_there_and_back(self):
        for good in (0, 3, -4):
            for contract in with_good(good):
                self.assertEqual(read_contract(write_contract(contract)), contract)
                for outer in holding(contract):
                    self.assertEqual(read_contract(write_contract(outer)), outer)

    def test_many_parts(self):
        for many in (21, 40, 500):
            self.assertEqual(read_contract(write_contract(row_of(many))), row_of(many))

    def test_depths(self):
        for many in (19, 20, 199):
            text = "later(" * many + "nothing" + ")" * many
            self.assertEqual(write_contract(nested("later", many)), text)
            self.assertEqual(read_contract(text), nested("later", many))
        self.assertEqual(depth_of(read_contract(text)), 200)
        value = "minus(" * 198 + "number(1)" + ", number(2))" * 198
        self.assertEqual(depth_of(read_contract("scale(" + value + ", nothing)")), 200)
        condition = "not(" * 197 + "same(buy(0), buy(0))" + ")" * 197
        self.assertEqual(depth_of(read_contract("until(" + condition + ", nothing)")), 200)
        right = "both(nothing, " * 199 + "nothing" + ")" * 199
        self.assertEqual(depth_of(read_contract(right)), 200)
        self.assertEqual(write_contract(read_contract(right)), right)

    def test_fractions_of_up_to_1000_characters(self):
        text = "scale(number(" + "7" * 1000 + "), nothing)"
        self.assertEqual(read_contract(text)[1], ("number", (int("7" * 1000), 1)))
        self.assertRaises(TextError, read_contract, "scale(number(" + "7" * 1001 + "), nothing)")

    def test_longer_numbers_are_written(self):
        self.assertEqual(write_contract(("one", 10 ** 12)), "one(1" + "0" * 12 + ")")
        self.assertEqual(write_contract(("scale", ("number", (10 ** 5000, 1)), NOTHING)),
                         "scale(number(1" + "0" * 5000 + "), nothing)")


class WrongTexts(unittest.TestCase):
    def check_all(self, texts):
        for text in texts:
            with self.subTest(text=text):
                self.assertRaises(TextError, read_contract, text)

    def test_no_text_and_unknown_words(self):
        self.check_all(("", " ", "\n", "x", "Nothing", "noth", "nothings", "0", "()", "(nothing)",
                        "none(0)", "two(0)", "gives(nothing)", "give2(nothing)", "(0)", ",", "-",
                        "One(0)", "and", "contract(nothing)", "give(none)", "give()", "size(1)",
                        "scale(price(1), nothing)", "when(more(buy(0), buy(0)), nothing)",
                        "one(good)", "at(time, nothing)", "scale(number(size), nothing)"))

    def test_parentheses(self):
        self.check_all(("one", "one(", "one)", "one(0", "one0)", "one((0))", "one(0))", "((one(0))",
                        "one()", "nothing()", "nothing(", "nothing)", "give", "give(", "give)",
                        "give(nothing", "give(nothing))", "give nothing", "give((nothing))",
                        "(give(nothing))", "give[nothing]", "both(nothing, nothing",
                        "both(nothing, one(0)", "at(2, give(one(1))", "at(2, give(one(1))))",
                        "both(nothing), nothing", "both(nothing), (nothing)"))

    def test_commas_and_spaces(self):
        self.check_all(("both(nothing,nothing)", "both(nothing nothing)", "both(nothing , nothing)",
                        "both(nothing,  nothing)", "both( nothing, nothing)", "both(nothing, nothing )",
                        "both (nothing, nothing)", " nothing", "nothing ", "one( 0)", "one(0 )",
                        "one (0)", "both(nothing,\nnothing)", "both(nothing,\tnothing)",
                        "both(, nothing)", "both(nothing, )", "both(nothing,)", "both(,)", "both(, )",
                        "both(nothing, , nothing)", "both(nothing,, nothing)", "both(nothing; nothing)",
                        "one(0,)", "one(0, )", "one(, 0)", "give(nothing, )", "at(2,give(one(1)))",
                        "one(\u00a00)", "noth ing"))

    def test_too_few_or_too_many_things(self):
        self.check_all(("nothing(0)", "nothing(nothing)", "one(0, 0)", "one(0, nothing)",
                        "give(nothing, nothing)", "both(nothing)", "both(nothing, nothing, nothing)",
                        "or(nothing)", "or(nothing, nothing, nothing)", "scale(number(1))",
                        "scale(nothing)", "scale(number(1), nothing, nothing)", "at(1)", "at(nothing)",
                        "at(1, nothing, nothing)", "at(1, 1, nothing)", "early(1)", "early(nothing)",
                        "later(1, nothing)", "when(nothing)", "when(same(buy(0), buy(0)))",
                        "when(same(buy(0)), nothing)", "when(same(buy(0), buy(0), buy(0)), nothing)",
                        "until(not(), nothing)", "until(and(same(buy(0), buy(0))), nothing)",
                        "until(not(same(buy(0), buy(0)), same(buy(0), buy(0))), nothing)",
                        "scale(plus(buy(0)), nothing)", "scale(plus(buy(0), buy(0), buy(0)), nothing)",
                        "scale(number(1, 2), nothing)", "scale(number(), nothing)",
                        "scale(buy(), nothing)", "scale(sell(0, 1), nothing)"))

    def test_things_of_another_kind(self):
        same = "same(buy(0), buy(0))"
        self.check_all(("number(1)", "buy(0)", "sell(0)", "plus(buy(0), buy(0))", same, f"not({same})",
                        f"and({same}, {same})", "give(number(1))", "give(buy(0))", f"give({same})",
                        "give(0)", "both(nothing, buy(0))", "both(number(1), nothing)",
                        "scale(nothing, nothing)", "scale(one(0), nothing)", "scale(1, nothing)",
                        "scale(1/2, nothing)", f"scale({same}, nothing)", "scale(nothing, number(1))",
                        "scale(plus(buy(0), one(0)), nothing)", f"scale(plus({same}, buy(0)), nothing)",
                        "scale(number(buy(0)), nothing)", "scale(buy(number(0)), nothing)",
                        "when(buy(0), nothing)", "when(nothing, nothing)", "when(1, nothing)",
                        "until(one(0), nothing)", f"when(same(buy(0), {same}), nothing)",
                        "when(not(buy(0)), nothing)", f"when(and({same}, buy(0)), nothing)",
                        f"when({same}, {same})", f"when({same}, buy(0))", "at(nothing, nothing)",
                        "at(number(1), nothing)", "at(1, 1)", "at(1, number(1))", "early(1/2, nothing)",
                        "one(number(0))", "one(nothing)", "one(1/2)", "later(1)"))

    def test_integers(self):
        for text in ("00", "01", "-0", "+1", "+0", "--1", "-01", "1.0", "1e3", "1_0", "0x1", "1-", "-",
                     "1234567890", "-1234567890", "0000000000", "\u0663", "\u00b2", "1/1", "2/1"):
            self.check_all((f"one({text})", f"at({text}, nothing)", f"early({text}, nothing)",
                            f"scale(buy({text}), nothing)", f"scale(sell({text}), nothing)"))

    def test_fractions(self):
        for text in ("00", "01", "-0", "+1", "2/4", "4/2", "1/1", "0/1", "1/0", "-0/1", "1/-2", "-1/-2",
                     "1/+2", "01/2", "1/02", "1//2", "1/", "/2", "/", "1/2/3", "1 /2", "1/ 2", " 1", "1 ",
                     "0.5", "1e2", "", "-", "half", "\u0663"):
            self.check_all((f"scale(number({text}), nothing)",
                            f"when(less(number({text}), buy(0)), nothing)"))

    def test_behind_the_end(self):
        for text in ("nothing", "one(0)", "both(one(0), nothing)", "at(2, give(one(1)))"):
            for more in (" ", "\n", ")", "(", ",", ", nothing", "x", "0", text, "(0)", ", "):
                self.check_all((text + more,))

    def test_each_beginning_and_each_end_of_a_text(self):
        text = "until(and(less(buy(1), number(-3/2)), same(sell(0), buy(0))), early(2, or(one(1), nothing)))"
        self.assertEqual(write_contract(read_contract(text)), text)
        self.check_all([text[:k] for k in range(len(text))] + [text[k:] for k in range(1, len(text))
                       if text[k:] != "nothing"])

    def test_deep_texts_that_are_wrong(self):
        self.check_all(("later(" * 200, "later(" * 200 + "nothing" + ")" * 199,
                        "later(" * 100000, ")" * 100000, "both(nothing, " * 5000))


if __name__ == "__main__":
    unittest.main()
