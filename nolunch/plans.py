"""Amounts, plans, and trades that are done."""

from nolunch.errors import PlanError
from nolunch.markets import walk
from nolunch.ratios import compare, minus, plus, times


def check_plan(market, plan):
    """Return None if something is a plan for a checked market, raise otherwise."""
    goods, _ = market
    known = {path: True for path, _ in walk(market)}
    before = None
    for path, amounts in plan:
        if path not in known:
            raise PlanError("a plan trades at a moment that there is not")
        if before is not None and path <= before:
            raise PlanError("the paths of a plan do not strictly ascend")
        if len(amounts) != goods - 1:
            raise PlanError("a plan has no amount for a good, or too many")
        before = path


def traded(held, prices, amounts):
    """Return what is held, money first, after trades at some prices."""
    money = held[0]
    others = []
    for had, (buy, sell), amount in zip(held[1:], prices, amounts):
        price = buy if compare(amount, (0, 1)) > 0 else sell
        money = minus(money, times(amount, price))
        others.append(plus(had, amount))
    return (money, *others)
