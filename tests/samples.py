"""Markets and small helpers that several tests use."""


def whole(number):
    return (number, 1)


def price(buy, sell):
    """A price pair of two integers."""
    return (whole(buy), whole(sell))


def chain(length, prices=()):
    """A node from which a chain of so many further nodes goes on."""
    node = (prices, ())
    for _ in range(length):
        node = (prices, (node,))
    return node


def star(many, prices=()):
    """A node with so many ends behind it."""
    return (prices, ((prices, ()),) * many)


# The example of the document.
EXAMPLE = (2, ((price(2, 1),), (((price(3, 2),), ()), ((price(1, 1),), ()))))

# Three goods, three moments, one end.
LINE = (3, ((price(5, 4), price(2, 2)),
            (((price(6, 3), ((1, 2), (1, 3))),
              (((price(4, 4), price(1, 0)), ()),)),)))

# Four goods, two times, four ends.
WIDE = (4, ((price(2, 1), price(3, 3), ((7, 2), (5, 2))),
            (((price(2, 2), price(4, 3), price(5, 2)),
              (((price(1, 1), price(3, 3), price(4, 4)), ()),
               ((price(3, 2), price(5, 4), price(6, 0)), ()))),
             ((price(1, 1), price(2, 2), price(3, 3)),
              (((price(1, 0), price(1, 1), price(2, 2)), ()),
               ((price(2, 2), price(3, 2), price(4, 4)), ()))))))

# One good, at one moment and at several ones.
MONEY_ALONE = (1, ((), ()))
MONEY_TREE = (1, ((), (((), (((), ()),)), ((), (((), ()), ((), ()))))))

GOOD_MARKETS = (EXAMPLE, LINE, WIDE, MONEY_ALONE, MONEY_TREE)

# Markets with one fault each, and what it is.
NOT_MARKETS = {
    "no goods": (0, ((), ())),
    "negative goods": (-1, ((), ())),
    "five goods": (5, ((price(1, 1),) * 4, ())),
    "price missing": (2, ((), ())),
    "price missing behind": (2, ((price(1, 1),), (((), ()),))),
    "price too many": (1, ((price(1, 1),), ())),
    "price too many behind": (2, ((price(1, 1),), (((price(1, 1),) * 2, ()),))),
    "one price instead of a pair": (2, ((((1, 1),),), ())),
    "three prices instead of a pair": (2, ((((2, 1), (1, 1), (1, 1)),), ())),
    "sell above buy": (2, ((((1, 2), (2, 3)),), ())),
    "sell above buy behind": (2, ((price(1, 1),), (((price(1, 2),), ()),))),
    "sell negative": (2, ((((1, 1), (-1, 3)),), ())),
    "both negative": (2, ((price(-1, -2),), ())),
    "fault in the last good": (3, ((price(1, 1), price(0, 1)), ())),
    "ends at two times": (1, ((), (((), ()), ((), (((), ()),))))),
    "ends at two times, later first": (1, ((), (chain(2), chain(1)))),
}

TOO_LARGE_MARKETS = {
    "41 moments": (1, star(40)),
    "41 moments of two goods": (2, star(40, (price(1, 1),))),
    "time 6": (1, chain(6)),
    "time 6 and many moments": (1, ((), (chain(5),) * 8)),
}


def is_plain(value):
    """Whether a value is made of tuples, integers and strings alone, at every depth."""
    if type(value) is tuple:
        return all(is_plain(item) for item in value)
    return type(value) is int or type(value) is str


def check_market_errors(test, call):
    """Hold what a function of a market raises for what is no market, or too large."""
    from nolunch.errors import MarketError, TooLarge
    for name, market in NOT_MARKETS.items():
        with test.subTest(market=name):
            test.assertRaises(MarketError, call, market)
    for name, market in TOO_LARGE_MARKETS.items():
        with test.subTest(market=name):
            test.assertRaises(TooLarge, call, market)
