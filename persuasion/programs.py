"""Linear programs, without rounding: weights from 0 on by which points make a target.

Points and targets are rows of fractions of one length. The table that is
worked on is of whole numbers over one common pivot, which divides each new
one (Bareiss); columns are taken by least index, so that each search ends (Bland).
"""

from persuasion.ratios import lowest, scale_of, whole_row


class Table:
    """Equations for the weights of whole points, solved for the columns in the base.

    Each number stands for itself over the pivot. Behind the columns of the
    points each equation has an extra one, for what is missing in it; the
    target stands last. The aim is a row likewise: what it aims at grows by
    the columns of points at which it is below 0.
    """

    def __init__(self, points, target):
        self.many = len(points)
        self.signs = [-1 if number < 0 else 1 for number in target]
        self.rows = []
        for k, sign in enumerate(self.signs):
            extra = [1 if j == k else 0 for j in range(len(target))]
            self.rows.append([sign * point[k] for point in points] + extra + [sign * target[k]])
        self.base = [self.many + k for k in range(len(target))]
        self.pivot = 1
        # At first the aim is that as little as can be is missing.
        self.aim = [-sum([row[j] for row in self.rows]) for j in range(self.many)]
        self.aim = self.aim + [0] * len(target) + [-sum([row[-1] for row in self.rows])]

    def is_missing(self):
        """Whether, with the first aim reached, something is missing."""
        return self.aim[-1] != 0

    def aim_at(self, worths):
        """Aims at the greatest sum of weights times whole worths; nothing is missing now."""
        self.leave_extras()
        goals = list(worths) + [0] * len(self.rows)
        brought = [goals[column] for column in self.base]
        self.aim = []
        for j, goal in enumerate(goals + [0]):
            self.aim.append(sum([number * row[j] for number, row in zip(brought, self.rows)]) - goal * self.pivot)

    def leave_extras(self):
        """Takes extra columns out of the base, but where an equation follows from others."""
        for at in range(len(self.rows)):
            if self.base[at] >= self.many:
                columns = [j for j in range(self.many) if self.rows[at][j] != 0]
                if columns:
                    self.solve(at, columns[0])

    def reach(self):
        """Reaches what the table aims at, which has a bound."""
        while True:
            columns = [j for j in range(self.many) if self.aim[j] < 0]
            if not columns:
                break
            self.solve(self.tightest(columns[0]), columns[0])

    def tightest(self, column):
        """The equation that first lets the column's weight grow no more."""
        found = None
        for at, row in enumerate(self.rows):
            if row[column] > 0 and (found is None or self.is_tighter(at, found, column)):
                found = at
        return found

    def is_tighter(self, at, other, column):
        """Whether an equation stops the column's weight ahead of another one."""
        row, beside = self.rows[at], self.rows[other]
        here, there = row[-1] * beside[column], beside[-1] * row[column]
        return here < there or (here == there and self.base[at] < self.base[other])

    def solve(self, at, column):
        """Solves an equation for a column, which comes into the base for the one that it had."""
        row = self.rows[at]
        if row[column] < 0:
            row = [-number for number in row]
        rows = [other if k == at else self.cleared(other, row, column) for k, other in enumerate(self.rows)]
        rows[at] = row
        self.aim = self.cleared(self.aim, row, column)
        self.rows, self.pivot = rows, row[column]
        self.base[at] = column

    def cleared(self, other, row, column):
        """Another row without the column, by the row that is solved for it."""
        factor, scale = other[column], row[column]
        return [(number * scale - factor * part) // self.pivot for number, part in zip(other, row)]

    def weights(self):
        """The weights of the points, times the pivot."""
        out = [0] * self.many
        for column, row in zip(self.base, self.rows):
            if column < self.many:
                out[column] = row[-1]
        return out

    def extras(self):
        """The aim's numbers at the extra columns."""
        return self.aim[self.many:-1]


def start(points, target):
    """A table for whole points in which as little as can be is missing."""
    table = Table(points, target)
    table.reach()
    return table


def weights_to(points, target):
    """The row of any weights from 0 on by which the points add up to the target; None."""
    table = start([whole_row(point) for point in points], whole_row(target))
    if table.is_missing():
        return None
    return true_weights(table, [scale_of(point) for point in points], scale_of(target))


def bar_to(points, target):
    """Any row whose product is up to 0 with each point, but above 0 with the target; None."""
    table = start([whole_row(point) for point in points], whole_row(target))
    if not table.is_missing():
        return None
    # Each extra column costs 1: the aim has there what its price lacks of it.
    return true_prices(table, [table.pivot - number for number in table.extras()])


def best_weights(points, target, worths):
    """The pair of such weights, of the greatest sum of weights times worths, and prices; None.

    The sum has a bound. The product of the prices with each point is from its
    worth on, that with the target is the sum.
    """
    ends = [point + (worth,) for point, worth in zip(points, worths)]
    wholes = [whole_row(end) for end in ends]
    table = start([whole[:-1] for whole in wholes], whole_row(target))
    if table.is_missing():
        return None
    table.aim_at([whole[-1] for whole in wholes])
    table.reach()
    weights = true_weights(table, [scale_of(end) for end in ends], scale_of(target))
    return (weights, true_prices(table, table.extras()))


def true_weights(table, scales, scale):
    """The table's weights, for points and a target that were made whole by these scales."""
    return tuple([lowest(number * by, table.pivot * scale) for number, by in zip(table.weights(), scales)])


def true_prices(table, numbers):
    """Prices from their numbers times the pivot, in the equations as they were."""
    return tuple([lowest(sign * number, table.pivot) for sign, number in zip(table.signs, numbers)])
