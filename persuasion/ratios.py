"""Whole numbers, fractions and rows of fractions.

A fraction is a pair (n, m) without a common divisor, m above 0, so two
fractions are the same number exactly if they are equal tuples.
"""

from math import gcd, lcm

NIL = (0, 1)
ONE = (1, 1)


def is_tuple_of(value, many):
    """Whether a value, whatever it is, is a tuple of so many things."""
    return isinstance(value, tuple) and len(value) == many


def is_whole(value):
    """Whether a value, whatever it is, is a whole number."""
    return isinstance(value, int) and not isinstance(value, bool)


def is_index(value, many):
    """Whether a value, whatever it is, is an index of one of so many."""
    return is_whole(value) and 0 <= value < many


def is_fraction(value):
    """Whether a value, whatever it is, is a fraction in lowest terms."""
    if not isinstance(value, tuple) or len(value) != 2:
        return False
    above, below = value
    if not is_whole(above) or not is_whole(below):
        return False
    return below > 0 and gcd(above, below) == 1


def is_row(value, many):
    """Whether a value, whatever it is, is a row of so many fractions."""
    if not isinstance(value, tuple) or len(value) != many:
        return False
    return all([is_fraction(number) for number in value])


def is_row_of_chances(value, many):
    """Whether a value is a row of so many fractions from 0 on, of the sum 1."""
    if not is_row(value, many):
        return False
    return all([above >= 0 for above, _ in value]) and row_sum(value) == ONE


def lowest(above, below):
    """The fraction above / below, below being above 0."""
    shared = gcd(above, below)
    return (above // shared, below // shared)


def times(left, right):
    """The product of two fractions."""
    return lowest(left[0] * right[0], left[1] * right[1])


def over(left, right):
    """A fraction over another one, which is above 0."""
    return lowest(left[0] * right[1], left[1] * right[0])


def plus(left, right):
    """The sum of two fractions."""
    return lowest(left[0] * right[1] + right[0] * left[1], left[1] * right[1])


def minus(left, right):
    """A fraction less another one."""
    return lowest(left[0] * right[1] - right[0] * left[1], left[1] * right[1])


def row_product(row, other):
    """The sum of the products, number by number, of two rows."""
    above, below = 0, 1
    for (n, m), (k, d) in zip(row, other):
        above = above * m * d + n * k * below
        below = below * m * d
    return lowest(above, below)


def row_sum(row):
    """The sum of the numbers of a row."""
    return row_product(row, (ONE,) * len(row))


def row_mix(shares, rows):
    """The sum of the shares times the rows."""
    return tuple([row_product(shares, column) for column in zip(*rows)])


def row_times(row, number):
    """A row times a fraction, number by number."""
    return tuple([times(part, number) for part in row])


def row_over(row, number):
    """A row over a fraction above 0, number by number."""
    return tuple([over(part, number) for part in row])


def row_difference(row, other):
    """A row less another one, number by number."""
    return tuple([minus(left, right) for left, right in zip(row, other)])


def row_added(row, other):
    """The sum, number by number, of two rows."""
    return tuple([plus(left, right) for left, right in zip(row, other)])


def opposite(row):
    """A row with all signs changed."""
    return tuple([(-above, below) for above, below in row])


def unit_row(k, many):
    """The row of so many numbers that is 1 at k, otherwise 0."""
    return tuple([ONE if j == k else NIL for j in range(many)])


def unit_rows(many):
    """All such rows of so many numbers."""
    return [unit_row(k, many) for k in range(many)]


def is_less(left, right):
    """Whether the first fraction is below the second one."""
    return left[0] * right[1] < right[0] * left[1]


def greatest(row):
    """The greatest number of a row of one number or more."""
    most = row[0]
    for number in row[1:]:
        if is_less(most, number):
            most = number
    return most


def least(row):
    """The least number of a row of one number or more."""
    lowered = row[0]
    for number in row[1:]:
        if is_less(number, lowered):
            lowered = number
    return lowered


def is_row_less(row, other):
    """Whether a row is below another one, element by element as numbers."""
    for left, right in zip(row, other):
        if left != right:
            return is_less(left, right)
    return False


def ascending(rows):
    """The ascending tuple of the unlike ones of rows of one length."""
    out = []
    for row in {row: True for row in rows}:
        out.insert(place_in(out, row), row)
    return tuple(out)


def are_ascending(rows):
    """Whether each row is below the next one."""
    return all([is_row_less(row, other) for row, other in zip(rows, rows[1:])])


def place_in(rows, row):
    """How many of the ascending rows are below a row."""
    low, high = 0, len(rows)
    while low < high:
        middle = (low + high) // 2
        if is_row_less(rows[middle], row):
            low = middle + 1
        else:
            high = middle
    return low


def scale_of(row):
    """The least whole number above 0 times which the row is of whole numbers."""
    scale = 1
    for _, below in row:
        scale = lcm(scale, below)
    return scale


def whole_row(row):
    """Whole numbers in the same ratios: the row times its scale."""
    scale = scale_of(row)
    return [above * (scale // below) for above, below in row]
