"""The simplex method over exact integers, for programs of any size.

A table has rows of integers. Each row stands for an equation: the numbers times the free
variables, plus its own number, which is above 0, times its own variable, make its bound.
Free variables are 0 at the point of the table. The variables of the program come first, then
one for each row: what is left there up to the bound. Behind the rows of the program stands the
row of the gain, and for a while one more.
"""

from math import gcd, lcm

from nolunch.ratios import fraction, times

# Where a row has its bound, its nudge and its own number, behind those of the free variables.
BOUND = -3
NUDGE = -2
OWN = -1


class Table:
    """A linear program at one of its points."""

    def __init__(self, rows, gains):
        self.width = len(gains)
        self.many = len(rows)
        self.rows = [list(factors) + [bound, 0, 1] for factors, bound in rows]
        self.rows.append([-gain for gain in gains] + [0, 0, 1])
        self.free = list(range(self.width))
        self.own = list(range(self.width, self.width + self.many))
        self.order = list(self.own)

    def add_goal(self, gains):
        """Add a row for another gain at the first point, and return its place."""
        self.rows.append([-gain for gain in gains] + [0, 0, 1])
        return len(self.rows) - 1

    def begin(self):
        """Go to a point that keeps the program, and tell whether there is one."""
        lowest = min([row[BOUND] for row in self.rows[:self.many]], default=0)
        if lowest >= 0:
            return True
        bounds = [row[BOUND] for row in self.rows]
        helper = self._add_helper()
        self.swap(bounds.index(lowest), self.free.index(helper))
        self.improve(self.many + 1)
        if self.rows[self.many + 1][BOUND] < 0:
            return False
        self._drop_helper(helper)
        return True

    def _add_helper(self):
        """Add a variable that raises the bounds below 0, and a row that gains by its absence."""
        helper = self.width + self.many
        self.rows = [row[:BOUND] + [-1 if row[BOUND] < 0 else 0] + row[BOUND:] for row in self.rows]
        self.rows.append([0] * len(self.free) + [1, 0, 0, 1])
        self.free.append(helper)
        return helper

    def _drop_helper(self, helper):
        if helper in self.own:
            # It is 0 here, so that any swap with it keeps the point.
            place = self.own.index(helper)
            columns = [column for column, number in enumerate(self.rows[place]) if number != 0]
            self.swap(place, columns[0])
        column = self.free.index(helper)
        self.rows = [row[:column] + row[column + 1:] for row in self.rows[:self.many + 1]]
        self.free.pop(column)

    def improve(self, goal):
        """Let the own variable of a row grow; return the column that does so without end, or None."""
        self._nudge()
        while True:
            column = _steepest(self.rows[goal])
            if column is None:
                return None
            place = self._tightest(column)
            if place is None:
                return column
            self.swap(place, column)

    def _nudge(self):
        # The bounds count as raised by tiny amounts, of different sizes, so that few rows are
        # tight at one point; then by far tinier ones, each beyond compare with the one before
        # it, so that never two are. Thus no point comes twice, and improving comes to an end.
        for place in range(self.many):
            row = self.rows[place]
            row[NUDGE] = row[OWN] * (place * 7919 % 1009 + 1)
        self.order = list(self.own)

    def _tightest(self, column):
        """Return the place of the row that first stops a free variable that grows, or None."""
        places = [place for place in range(self.many) if self.rows[place][column] > 0]
        places = self._least(places, column, BOUND)
        places = self._least(places, column, NUDGE)
        for variable in self.order:
            if len(places) < 2:
                break
            if variable in self.free:
                places = self._least(places, column, self.free.index(variable))
            else:
                places = [place for place in places if self.own[place] != variable]
        return places[0] if places else None

    def _least(self, places, column, at):
        """Return those of some places where one number over another, above 0, is least."""
        best = []
        for place in places:
            row = self.rows[place]
            low = self.rows[best[0]] if best else row
            difference = row[at] * low[column] - low[at] * row[column]
            if difference < 0:
                best = [place]
            elif difference == 0:
                best.append(place)
        return best

    def swap(self, place, column):
        """Make the own variable of a row free, and the free variable of a column its own."""
        base = self.rows[place]
        sign = -1 if base[column] < 0 else 1
        base = [sign * number for number in base]
        base[column], base[OWN] = base[OWN], base[column]
        self.rows = [_cleared(row, base, column) for row in self.rows]
        self.rows[place] = base
        self.own[place], self.free[column] = self.free[column], self.own[place]

    def point(self):
        """Return what the variables of the program are."""
        found = [(0, 1)] * self.width
        for row, variable in zip(self.rows, self.own):
            if variable < self.width:
                found[variable] = fraction(row[BOUND], row[OWN])
        return tuple(found)

    def way(self, column):
        """Return how the variables of the program grow with the free variable of a column."""
        found = [(0, 1)] * self.width
        if self.free[column] < self.width:
            found[self.free[column]] = (1, 1)
        for row, variable in zip(self.rows, self.own):
            if variable < self.width:
                found[variable] = fraction(-row[column], row[OWN])
        return tuple(found)

    def weights(self, goal):
        """Return how much each row of the program has a part in a row behind them."""
        row = self.rows[goal]
        found = [(0, 1)] * self.many
        for column, variable in enumerate(self.free):
            if self.width <= variable < self.width + self.many:
                found[variable - self.width] = fraction(row[column], row[OWN])
        return found


def _steepest(row):
    """Return the column of the free variable that adds most to the own one, None if none does."""
    numbers = row[:BOUND]
    lowest = min(numbers, default=0)
    return numbers.index(lowest) if lowest < 0 else None


def _cleared(row, base, column):
    """Return a row without the new own variable of a base row, which was free in a column."""
    factor = row[column]
    if factor == 0:
        return row
    shared = gcd(factor, base[OWN])
    more = base[OWN] // shared
    less = factor // shared
    result = [more * mine - less * its for mine, its in zip(row, base)]
    result[column] = -less * base[column]
    result[OWN] = more * row[OWN]
    return _shortened(result)


def _shortened(row):
    shared = 0
    for number in row:
        shared = gcd(shared, number)
        if shared == 1:
            return row
    return [number // shared for number in row]


def _scale(numbers):
    """Return the least integer that makes some fractions integers."""
    shared = 1
    for _, denominator in numbers:
        shared = lcm(shared, denominator)
    return shared


def _scaled(numbers, scale):
    return [numerator * (scale // denominator) for numerator, denominator in numbers]


def _row_scale(row):
    factors, bound = row
    return _scale(factors + (bound,))


def _scaled_row(row):
    factors, bound = row
    scale = _row_scale(row)
    return (_scaled(factors, scale), bound[0] * (scale // bound[1]))


def solved(program):
    """Return the result, as best_of tells it, of a program of any size."""
    gains, rows = program
    gain_scale = _scale(gains)
    scales = [_row_scale(row) for row in rows]
    table = Table([_scaled_row(row) for row in rows], _scaled(gains, gain_scale))
    if not table.begin():
        weights = table.weights(table.many + 1)
        return ("none", _unscaled(weights, scales, 1))
    column = table.improve(table.many)
    if column is not None:
        return ("endless", table.point(), table.way(column))
    return ("best", table.point(), _unscaled(table.weights(table.many), scales, gain_scale))


def greatest_gains(rows, goals):
    """Return for each of some goals, rows of gains, the greatest gain of a point that keeps some rows.

    There is a row, the bounds of the rows are at least 0, and no gain is endless.
    """
    scales = [_scale(goal) for goal in goals]
    table = Table([_scaled_row(row) for row in rows], [0] * len(rows[0][0]))
    places = [table.add_goal(_scaled(goal, scale)) for goal, scale in zip(goals, scales)]
    found = []
    for place, scale in zip(places, scales):
        table.improve(place)
        row = table.rows[place]
        found.append(fraction(row[BOUND], row[OWN] * scale))
    return found


def _unscaled(weights, scales, gain_scale):
    return tuple([times(weight, fraction(scale, gain_scale))
                  for weight, scale in zip(weights, scales)])
