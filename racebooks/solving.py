"""Greatest worths under bounds, exactly: the simplex method over whole numbers.

A column tells what a stake of 1 gains, as a fraction for each outcome.
"""

from math import lcm

from racebooks.kinds import ONE, ZERO, fraction, least_of, minus, one_over, plus, scaled


def settled(columns, many):
    """("stakes", stakes) on the columns that gain at least 1 in each of so many outcomes; if there are none,
    ("chances", chances) under which no column gains in the mean.
    """
    # With a stake that never gains, the value is 0 where nothing gains, and there may be no other columns.
    value, stakes, chances = game(columns + [[ZERO] * many])
    if value == ZERO:
        return ("chances", chances)
    return ("stakes", scaled(stakes[:-1], one_over(value)))


def game(columns):
    """The greatest value that stakes of 1 in all on the columns gain at least in every outcome; such stakes;
    and chances under which no column gains more in the mean.
    """
    # Raised so far that all gains are above 0, stakes of 1 in all gain just so much more.
    raised = minus(ONE, least_of([least_of(column) for column in columns]))
    rows = [[plus(gain, raised) for gain in column] for column in columns]
    worth, amounts, prices = greatest(rows, [ONE] * len(rows), [ONE] * len(rows[0]))
    value = one_over(worth)
    return (minus(value, raised), scaled(prices, value), scaled(amounts, value))


def greatest(rows, bounds, worths):
    """Amounts of the greatest worth: for each row, the sum of the row times the amounts is at most its bound.

    Returns the worth, the amounts, and prices of the rows. Amounts and prices are 0 or more. The bounds times
    the prices come to the worth; for each amount, what stands at its place in the rows, times the prices, comes
    to at least the worth that is told for it. No bound is below 0, and the worth must have a limit.
    """
    scales = [_common_bottom(row + [bound]) for row, bound in zip(rows, bounds)]
    worth_scale = _common_bottom(worths)
    lines = [_whole(row + [bound], scale) for row, bound, scale in zip(rows, bounds, scales)]
    table = Table(lines + [_whole([minus(ZERO, worth) for worth in worths] + [ZERO], worth_scale)])
    table.improve()
    bottom = table.divisor * worth_scale
    amounts = tuple([fraction(top, table.divisor) for top in table.amounts()])
    prices = tuple([fraction(top * scale, bottom) for top, scale in zip(table.prices(), scales)])
    return (fraction(table.lines[-1][-1], bottom), amounts, prices)


def _common_bottom(fractions):
    common = 1
    for part in fractions:
        common = lcm(common, part[1])
    return common


def _whole(fractions, scale):
    """The fractions times the scale, as integers."""
    return [part[0] * (scale // part[1]) for part in fractions]


class Table:
    """A simplex table whose numbers are integers over one divisor.

    Each line but the last one is of an amount that may be above 0 (its name stands in inside), each column but
    the last one of an amount that is 0 (its name stands in outside). The last line tells what the worth loses if
    the amount of a column grows; the last column, how great the amounts are. The names from the number of
    columns on are those of what is left up to the bounds.
    """

    def __init__(self, lines):
        self.lines = lines
        self.divisor = 1
        self.many = len(lines[0]) - 1
        self.outside = list(range(self.many))
        self.inside = list(range(self.many, self.many + len(lines) - 1))

    def improve(self):
        """Exchange amounts until the worth is the greatest."""
        column = self._column_to_enter()
        while column is not None:
            self._exchange(self._line_to_leave(column), column)
            column = self._column_to_enter()

    def amounts(self):
        """The tops of the amounts, over the divisor."""
        tops = [0] * self.many
        for name, line in zip(self.inside, self.lines):
            if name < self.many:
                tops[name] = line[-1]
        return tops

    def prices(self):
        """The tops of the prices of the lines, over the divisor."""
        tops = [0] * len(self.inside)
        for name, top in zip(self.outside, self.lines[-1]):
            if name >= self.many:
                tops[name - self.many] = top
        return tops

    def _column_to_enter(self):
        """A column whose amount makes the worth greater, or None."""
        found = None
        for column, name in enumerate(self.outside):
            # The least names first (Bland's rule): otherwise the exchanges might go round for ever.
            if self.lines[-1][column] < 0 and (found is None or name < self.outside[found]):
                found = column
        return found

    def _line_to_leave(self, column):
        """The line whose amount is the first to be 0 when that of the column grows."""
        found = None
        for line in range(len(self.inside)):
            if self.lines[line][column] > 0 and (found is None or self._is_sooner(line, found, column)):
                found = line
        return found

    def _is_sooner(self, line, other, column):
        left = self.lines[line][-1] * self.lines[other][column]
        right = self.lines[other][-1] * self.lines[line][column]
        return left < right or (left == right and self.inside[line] < self.inside[other])

    def _exchange(self, line, column):
        """Let the amounts of the line and of the column change places."""
        told = self.lines[line]
        pivot = told[column]
        exchanged = []
        for cells in self.lines:
            factor = cells[column]
            # Leaves no rest: each number of a table is a determinant of numbers of the first one.
            changed = [(cell * pivot - factor * beside) // self.divisor for cell, beside in zip(cells, told)]
            changed[column] = -factor
            exchanged.append(changed)
        exchanged[line] = list(told)
        exchanged[line][column] = self.divisor
        self.lines = exchanged
        self.divisor = pivot
        self.inside[line], self.outside[column] = self.outside[column], self.inside[line]
