"""Determinants and right angles of rows of few whole numbers.

The rows have at most as many numbers as a setting has states, so that
going by the first row is quick, and whole numbers keep it exact.
"""

from itertools import combinations


def without(row, k):
    """A row without its number at k."""
    return row[:k] + row[k + 1:]


def determinant(rows):
    """The determinant of as many rows as each has numbers; 1 for no rows."""
    if not rows:
        return 1
    if len(rows) == 2:
        # Nearly all time goes into these, so they are worth a formula of their own.
        return rows[0][0] * rows[1][1] - rows[0][1] * rows[1][0]
    total = 0
    for k, number in enumerate(rows[0]):
        if number == 0:
            continue
        minor = determinant([without(row, k) for row in rows[1:]])
        total += number * minor if k % 2 == 0 else -number * minor
    return total


def right_angle(rows, many):
    """A row of so many numbers at a right angle to many - 1 such rows.

    All others are multiples of it; if the rows are dependent, all its
    numbers are 0.
    """
    minors = [determinant([without(row, k) for row in rows]) for k in range(many)]
    return [minor if k % 2 == 0 else -minor for k, minor in enumerate(minors)]


def has_base(rows, many):
    """Whether some of the rows, as many as told, have a determinant other than 0."""
    for chosen in combinations(rows, many):
        if determinant(chosen) != 0:
            return True
    return False
