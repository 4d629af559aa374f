"""Texts of markets."""

from nolunch.errors import TextError
from nolunch.integers import read_natural, write_integer
from nolunch.markets import check_market, walk
from nolunch.ratios import read_fraction, write_fraction


def write_market(market):
    """Return the text of a market."""
    check_market(market)
    goods, _ = market
    lines = ["goods " + write_integer(goods) + "\n"]
    for path, node in walk(market):
        words = ["moment", _write_path(path)]
        for buy, sell in node[0]:
            words.extend([write_fraction(buy), write_fraction(sell)])
        lines.append(" ".join(words) + "\n")
    return "".join(lines)


def read_market(text):
    """Return the market with a text."""
    lines = text.split("\n")
    if lines.pop() != "":
        raise TextError("the last line has no line feed")
    if len(lines) < 2:
        raise TextError("a market has a line for its goods and one for each moment")
    goods = _read_goods(lines[0])
    told = [_read_moment(goods, line) for line in lines[1:]]
    _check_order([path for path, _ in told])
    market = (goods, _tree(told))
    check_market(market)
    return market


def _write_path(path):
    if path == ():
        return "-"
    return ".".join([write_integer(index) for index in path])


def _read_path(word):
    if word == "-":
        return ()
    return tuple([read_natural(index) for index in word.split(".")])


def _read_goods(line):
    words = line.split(" ")
    if len(words) != 2 or words[0] != "goods":
        raise TextError("the first line does not tell the goods")
    return read_natural(words[1])


def _read_moment(goods, line):
    """Return the pair of the path and the prices of a moment."""
    words = line.split(" ")
    if words[0] != "moment" or len(words) != 2 + 2 * max(0, goods - 1):
        raise TextError("a line does not tell a moment with a price pair for each good")
    numbers = [read_fraction(word) for word in words[2:]]
    prices = [(numbers[k], numbers[k + 1]) for k in range(0, len(numbers), 2)]
    return (_read_path(words[1]), tuple(prices))


def _check_order(paths):
    """Return None if paths are those of all moments of a tree, ascending, raise otherwise."""
    if paths[0] != ():
        raise TextError("the first moment does not come first")
    children = {(): 0}
    before = ()
    for path in paths[1:]:
        parent = path[:-1]
        if path <= before or parent not in children or path[-1] != children[parent]:
            raise TextError("moments do not ascend without gaps")
        children[parent] += 1
        children[path] = 0
        before = path


def _tree(told):
    """Return the first node of moments in the order that _check_order asks for."""
    # From the last one back, each node is made when all nodes behind it are.
    following = {path: [] for path, _ in told}
    for path, prices in reversed(told[1:]):
        following[path[:-1]].append((prices, tuple(reversed(following[path]))))
    return (told[0][1], tuple(reversed(following[()])))
