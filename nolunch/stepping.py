"""What values and conditions are at a moment, and what a contract asks or pays there."""

from nolunch.contracts import check_contract, check_numbers, walk_parts
from nolunch.markets import check_market, node_at
from nolunch.ratios import added, compare, minus, multiplied, plus, times


def value_at(market, path, value):
    """Return the fraction of a value at a moment."""
    return _looked_up(market, path, value)


def holds_at(market, path, condition):
    """Tell whether a condition holds at a moment."""
    return _looked_up(market, path, condition)


def _looked_up(market, path, part):
    check_market(market)
    goods, _ = market
    prices, _ = node_at(market, path)
    for each, _ in walk_parts(part):
        check_numbers(goods, each)
    return _worked_out(prices, part)


def _worked_out(prices, part):
    """Return the fraction of a value, or True or False for a condition, at some prices."""
    # From the last part back, so that what is behind a part is worked out ahead of it.
    found = []
    for each, _ in reversed(walk_parts(part)):
        word = each[0]
        if word == "number":
            found.append(each[1])
        elif word in ("buy", "sell"):
            found.append(_price(prices, word, each[1]))
        elif word == "not":
            found.append(not found.pop())
        else:
            first = found.pop()
            second = found.pop()
            found.append(_joined(word, first, second))
    return found.pop()


def _price(prices, word, good):
    if good == 0:
        return (1, 1)
    buy, sell = prices[good - 1]
    return buy if word == "buy" else sell


def _joined(word, first, second):
    if word == "plus":
        return plus(first, second)
    if word == "minus":
        return minus(first, second)
    if word == "times":
        return times(first, second)
    if word == "least":
        return first if compare(first, second) < 0 else second
    if word == "greatest":
        return first if compare(first, second) > 0 else second
    if word == "less":
        return compare(first, second) < 0
    if word == "same":
        return first == second
    return first and second


def faced(market, path, contract):
    """Return what a contract asks at a moment, or what it pays there and what is left of it."""
    check_market(market)
    check_contract(market[0], contract)
    prices, _ = node_at(market, path)
    return face(len(path), prices, contract)


def face(time, prices, contract):
    """Return what a checked contract is faced with at a time and some prices, as faced tells it."""
    step = STEPS[contract[0]]
    return step(time, prices, contract)


def _idle(prices, left):
    return ("pay", ((0, 1),) * (len(prices) + 1), left)


def _face_nothing(_, prices, contract):
    return _idle(prices, contract)


def _face_one(_, prices, contract):
    amounts = [(0, 1)] * (len(prices) + 1)
    amounts[contract[1]] = (1, 1)
    return ("pay", tuple(amounts), ("nothing",))


def _face_scale(time, prices, contract):
    _, value, inner = contract
    told = face(time, prices, inner)
    if told[0] == "ask":
        return ("ask", told[1], ("scale", value, told[2]), ("scale", value, told[3]))
    factor = _worked_out(prices, value)
    return ("pay", multiplied(told[1], factor), ("scale", ("number", factor), told[2]))


def _face_both(time, prices, contract):
    _, first, second = contract
    one = face(time, prices, first)
    if one[0] == "ask":
        return ("ask", one[1], ("both", one[2], second), ("both", one[3], second))
    other = face(time, prices, second)
    if other[0] == "ask":
        return ("ask", other[1], ("both", first, other[2]), ("both", first, other[3]))
    return ("pay", added(one[1], other[1]), ("both", one[2], other[2]))


def _face_give(time, prices, contract):
    told = face(time, prices, contract[1])
    if told[0] == "ask":
        side = "giver" if told[1] == "holder" else "holder"
        return ("ask", side, ("give", told[2]), ("give", told[3]))
    return ("pay", multiplied(told[1], (-1, 1)), ("give", told[2]))


def _face_or(_, prices, contract):
    return ("ask", "holder", contract[1], contract[2])


def _face_at(time, prices, contract):
    _, begin, inner = contract
    if time == begin:
        return face(time, prices, inner)
    return _idle(prices, contract if time < begin else ("nothing",))


def _face_when(time, prices, contract):
    _, condition, inner = contract
    if _worked_out(prices, condition):
        return face(time, prices, inner)
    return _idle(prices, contract)


def _face_until(time, prices, contract):
    _, condition, inner = contract
    if _worked_out(prices, condition):
        return _idle(prices, ("nothing",))
    told = face(time, prices, inner)
    if told[0] == "ask":
        return ("ask", told[1], ("until", condition, told[2]), ("until", condition, told[3]))
    return ("pay", told[1], ("until", condition, told[2]))


def _face_early(time, prices, contract):
    _, end, inner = contract
    if time > end:
        return _idle(prices, ("nothing",))
    return ("ask", "holder", inner, ("later", contract))


def _face_later(_, prices, contract):
    return _idle(prices, contract[1])


STEPS = {
    "nothing": _face_nothing,
    "one": _face_one,
    "scale": _face_scale,
    "both": _face_both,
    "give": _face_give,
    "or": _face_or,
    "at": _face_at,
    "when": _face_when,
    "until": _face_until,
    "early": _face_early,
    "later": _face_later,
}
