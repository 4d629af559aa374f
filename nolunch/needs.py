"""What a giver needs at the settled places of a contract, and what shows that it is needed.

For each number of held units of the goods from 1 on, a giver needs some least money. It is the
greatest one of what the points of the place ask for: a point is a tuple of prices, between those
of the moment, and a worth, which has to be reached by the money and the goods at these prices.
Each point is a mixture of points of the next moments. The points of a place are not all looked
for, but only those that a need of the next ones, at some held units, tells to be missing.
"""

from nolunch.ratios import added, compare, dot, lowest, minus, multiplied, over, plus, times, total
from nolunch.simplex import solved


class Point:
    """Prices of the goods from 1 on, the worth there, and the shares of points that make it."""

    def __init__(self, place, prices, worth, shares):
        self.history = place.history
        self.prices = prices
        self.worth = plus(worth, dot(place.amounts, ((1, 1),) + prices))
        self.shares = shares

    def missing(self, held):
        """Return the worth without that of what is held of the goods from 1 on."""
        return minus(self.worth, dot(held, self.prices))


class Answer:
    """The money that is needed for some held units, the trades then, and the point that shows it."""

    def __init__(self, money, amounts, after, shown):
        self.money = money
        self.amounts = amounts
        self.after = after
        self.shown = shown


class Need:
    """What a giver needs at a settled place, with one way of choosing behind it.

    groups are, for each next moment, the needs of which the other side chooses one. middles has
    for each path the weight of its money and the prices of fair weights.
    """

    def __init__(self, place, groups, middles):
        self.place = place
        self.groups = groups
        self.answers = {}
        self.middle = self._middle_point(middles)
        self.columns = [point for _, point in self.middle.shares]

    def _middle_point(self, middles):
        """Return the point at the prices of fair weights, with which the columns begin."""
        money, prices = middles[self.place.moment]
        shares = []
        for index, group in enumerate(self.groups):
            behind, _ = middles[self.place.moment + (index,)]
            best = group[0].middle
            for need in group:
                if compare(need.middle.worth, best.worth) > 0:
                    best = need.middle
            shares.append((over(behind, money), best))
        return self._mixed(prices, shares)

    def _mixed(self, prices, shares):
        worth = total([times(share, point.worth) for share, point in shares])
        return Point(self.place, prices, worth, shares)

    def answer(self, held):
        """Return what is needed when some units of the goods from 1 on are held."""
        if held not in self.answers:
            owed = self.place.amounts[1:]
            rest = tuple([minus(had, amount) for had, amount in zip(held, owed)])
            self.answers[held] = self._go_on(held, rest) if self.groups else self._end(held, rest)
        return self.answers[held]

    def _end(self, held, rest):
        """Return the answer at an end, where all that is missing is bought, all else sold."""
        prices, _ = self.place.node
        taken = tuple([buy if amount[0] < 0 else sell for amount, (buy, sell) in zip(rest, prices)])
        point = Point(self.place, taken, (0, 1), [])
        amounts = multiplied(rest, (-1, 1))
        return Answer(point.missing(held), amounts, added(rest, amounts), point)

    def _go_on(self, held, rest):
        """Return the answer at another moment, where some rest is held behind giving."""
        prices, _ = self.place.node
        while True:
            shares, amounts, money = best_mixture(prices, self.columns, rest)
            after = added(rest, amounts)
            more = self._points_above(money, after)
            if not more:
                break
            self.columns.extend(more)
        parts = [(share, point) for share, point in zip(shares, self.columns) if share != (0, 1)]
        mixed = tuple([total([times(share, point.prices[k]) for share, point in parts])
                       for k in range(len(prices))])
        point = self._mixed(mixed, parts)
        return Answer(point.missing(held), amounts, after, point)

    def _points_above(self, money, after):
        """Return for each next moment the point that asks for most, if it is more than there is."""
        found = []
        for group in self.groups:
            best = greatest_answer(group, after)
            if compare(best.money, money) > 0:
                found.append(best.shown)
        return found


def greatest_answer(needs, held):
    """Return the answer of one of some needs that asks for most money."""
    best = needs[0].answer(held)
    for need in needs:
        answer = need.answer(held)
        if compare(answer.money, best.money) > 0:
            best = answer
    return best


def best_mixture(prices, points, held):
    """Return the shares of points whose mixture asks for most between some prices, and its trades.

    The trades lead from what is held to where no point asks for more than the money left behind
    them, which is returned, too.
    """
    gains = [point.missing(held) for point in points]
    # With all gains above 0, the best shares add up to all that the first row allows, 1.
    lift = minus((1, 1), lowest(gains))
    rows = [(((1, 1),) * len(points), (1, 1))]
    for good, (buy, sell) in enumerate(prices):
        column = [point.prices[good] for point in points]
        rows.append((tuple([minus(price, buy) for price in column]), (0, 1)))
        rows.append((tuple([minus(sell, price) for price in column]), (0, 1)))
    lifted = tuple([plus(gain, lift) for gain in gains])
    _, shares, weights = solved((lifted, tuple(rows)))
    money = minus(weights[0], lift)
    amounts = []
    for good, (buy, sell) in enumerate(prices):
        bought = weights[1 + 2 * good]
        sold = weights[2 + 2 * good]
        money = plus(minus(money, times(bought, buy)), times(sold, sell))
        amounts.append(minus(bought, sold))
    return (shares, tuple(amounts), money)


def trades_from(needs):
    """Return the trades of a giver who begins with money alone, as a hedge has them."""
    nothing = ((0, 1),) * len(needs[0].middle.prices)
    found = []
    waiting = [(need, nothing) for need in needs]
    while waiting:
        need, held = waiting.pop()
        answer = need.answer(held)
        if any([amount != (0, 1) for amount in answer.amounts]):
            found.append((need.place.history, answer.amounts))
        for group in need.groups:
            waiting.extend([(each, answer.after) for each in group])
    return tuple(sorted(found))


def rows_of(point):
    """Return for each whole history that has a part in a point its numbers of all goods."""
    rows = {}
    waiting = [(point, (1, 1))]
    while waiting:
        part, weight = waiting.pop()
        waiting.extend([(other, times(weight, share)) for share, other in part.shares])
        if not part.shares:
            row = multiplied(((1, 1),) + part.prices, weight)
            before = rows.get(part.history)
            rows[part.history] = row if before is None else added(before, row)
    return rows
