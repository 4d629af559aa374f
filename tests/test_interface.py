"""The interface of the document: each name is defined in its own file, with its arguments."""

import ast
import pathlib
import unittest

PACKAGE = pathlib.Path(__file__).resolve().parent.parent / "nolunch"
FUNCTIONS = {
    "ratios": "fraction(numerator, denominator) plus(a, b) minus(a, b) times(a, b) over(a, b) total(items) "
              "compare(a, b) write_fraction(a) read_fraction(text)",
    "markets": "check_market(market) moments(market) ends(market) last_time(market) nexts(market, path) "
               "price_of(market, path, good)",
    "changing": "widened(market, factor) turned(market, order) market_at(market, path)",
    "notation": "write_market(market) read_market(text)",
    "programs": "check_program(program) best_of(program)",
    "proving": "check_result(program, result)",
    "gains": "holdings(market, start, plan) sure_gain(market)",
    "fairness": "check_gain(market, plan) check_fair(market, weights) middle_price(market, weights, path, good)",
    "contracts": "check_contract(goods, contract) size_of(contract) depth_of(contract)",
    "texts": "write_contract(contract) read_contract(text)",
    "stepping": "value_at(market, path, value) holds_at(market, path, condition) faced(market, path, contract)",
    "histories": "place_of(market, contract, history) paid(market, contract, history) "
                 "whole_histories(market, contract)",
    "choices": "ways(market, contract, side) settled_with(market, contract, side, way)",
    "hedging": "cost(market, contract) interval(market, contract) worth_of_ways(market, contract, side)",
    "judging": "check_hedge(market, contract, hedge) worth_of(market, contract, way, bound)",
    "replaying": "replay(text) replay_whole_lines(text)",
    "netting": "netted(contracts) flat(contract) joined(contracts)",
    "tight": "tight_price(market, path, good) tightened(market)",
    "covering": "covers(market, c, d) worth_beside(market, c, d) best_cover(market, contracts, d)",
    "dues": "dues(market, contract) most_paid(market, contract, good) least_paid(market, contract, good) "
            "pays_nothing(market, contract)",
    "growing": "grown(prices, moves, last, spread)",
    "advising": "advice(market, contract, side, history, held) best_options(market, contract, side, history, held)",
}
METHODS = ("__init__(self, market, money) sell(self, contract, price) buy(self, contract, price) asked(self) "
           "choose(self, number, option) settle(self) move(self, index) spare(self) path(self) held(self) "
           "deals(self) settled(self) log(self)")
CONSTANTS = {
    "markets": {"GOODS_LIMIT": 4, "MOMENT_LIMIT": 40, "TIME_LIMIT": 5},
    "contracts": {"PART_LIMIT": 40, "DEPTH_LIMIT": 20},
    "choices": {"WAY_LIMIT": 64, "SETTLED_LIMIT": 200},
    "books": {"DEAL_LIMIT": 20},
}


def body_of(name):
    return ast.parse((PACKAGE / (name + ".py")).read_text(encoding="utf-8")).body


def told_in(text):
    """The texts of functions, taken apart behind each closing parenthesis."""
    return [each.strip() + ")" for each in text.split(")")[:-1]]


def signatures(body):
    return [f"{node.name}({', '.join(each.arg for each in node.args.args)})"
            for node in body if isinstance(node, ast.FunctionDef)]


class Interface(unittest.TestCase):
    def test_functions(self):
        for name, text in FUNCTIONS.items():
            defined = signatures(body_of(name))
            for each in told_in(text):
                self.assertIn(each, defined, name)

    def test_the_class(self):
        found = [node for node in body_of("books") if isinstance(node, ast.ClassDef) and node.name == "Book"]
        self.assertEqual(len(found), 1)
        defined = signatures(found[0].body)
        for each in told_in(METHODS):
            self.assertIn(each, defined)

    def test_constants(self):
        for name, constants in CONSTANTS.items():
            values = {node.targets[0].id: ast.literal_eval(node.value) for node in body_of(name)
                      if isinstance(node, ast.Assign) and isinstance(node.value, ast.Constant)}
            for each, value in constants.items():
                self.assertEqual(values.get(each), value, name)


if __name__ == "__main__":
    unittest.main()
