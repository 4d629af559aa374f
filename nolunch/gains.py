"""What plans hold at the ends, and whether a market has a sure gain or fair weights."""

from nolunch.errors import PlanError
from nolunch.markets import check_market, node_at, walk
from nolunch.plans import check_plan, traded
from nolunch.ratios import minus, over, plus, total
from nolunch.simplex import solved


def holdings(market, start, plan):
    """Return for each end the pair of its path and what a plan holds there of each good."""
    check_market(market)
    check_plan(market, plan)
    if len(start) != market[0]:
        raise PlanError("what is held at first has no number for a good, or too many")
    trades = {path: amounts for path, amounts in plan}
    return tuple([(end, _held_at(market, end, start, trades)) for end in _end_paths(market)])


def _held_at(market, end, start, trades):
    held = start
    for time in range(len(end) + 1):
        path = end[:time]
        if path in trades:
            prices, _ = node_at(market, path)
            held = traded(held, prices, trades[path])
    return held


def _end_paths(market):
    return [path for path, node in walk(market) if not node[1]]


def sure_gain(market):
    """Return a sure gain, or fair weights whose weights of money add up to 1."""
    check_market(market)
    result = solved(_gain_program(market))
    if result[0] == "endless":
        return ("gain", _plan_of(market, result[2]))
    return ("fair", _weights_of(market, result[2]))


def _gain_program(market):
    """Return the program that gains money at the ends with debts of at most 1 of each good.

    Its variables are what is bought and what is sold of each good at each moment, its rows the
    debts of each good at each end. What it gains without end is a sure gain. Otherwise its
    weights, with 1 added to those of money, are fair: its gains are the factors of money at all
    ends, negative. Debts of 0 would say the same, but with all rows tight at the first point.
    """
    goods, _ = market
    rows = [(_debts(market, end, good), (1, 1))
            for end in _end_paths(market) for good in range(goods)]
    money_rows = [factors for factors, _ in rows[::goods]]
    gains = [minus((0, 1), total([factors[k] for factors in money_rows]))
             for k in range(len(money_rows[0]))]
    return (tuple(gains), tuple(rows))


def _debts(market, end, good):
    """Return how much less of a good is held at an end by one unit of each trade."""
    factors = []
    for path, node in walk(market):
        on_the_way = end[:len(path)] == path
        for other, (buy, sell) in enumerate(node[0], start=1):
            if on_the_way and good == 0:
                factors.extend([buy, minus((0, 1), sell)])
            elif on_the_way and good == other:
                factors.extend([(-1, 1), (1, 1)])
            else:
                factors.extend([(0, 1), (0, 1)])
    return tuple(factors)


def _plan_of(market, numbers):
    """Return the plan that buys and sells some numbers, in the order of the gain program."""
    plan = []
    place = 0
    for path, node in walk(market):
        behind = place + 2 * len(node[0])
        amounts = tuple([minus(numbers[k], numbers[k + 1]) for k in range(place, behind, 2)])
        if any([amount != (0, 1) for amount in amounts]):
            plan.append((path, amounts))
        place = behind
    return tuple(plan)


def _weights_of(market, numbers):
    """Return fair weights from the weights of the gain program."""
    goods, _ = market
    raised = [plus(number, (1, 1)) if k % goods == 0 else number
              for k, number in enumerate(numbers)]
    money = total(raised[::goods])
    shares = [over(number, money) for number in raised]
    return tuple([(end, tuple(shares[k * goods:(k + 1) * goods]))
                  for k, end in enumerate(_end_paths(market))])
