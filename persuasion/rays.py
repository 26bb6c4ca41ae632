"""Cones of whole rows, told by their rays, which are narrowed wish by wish.

A wish is a whole row; the cone is of all rows whose products with all wishes
are from 0 on. A ray is a pair (ROW, MET): a row of the cone that is no sum of
others, and the wishes with which its product is 0, a bit each. (The double
description of Motzkin, Raiffa, Thompson, Thrall, 1953.)
"""

from math import gcd


def narrowed(rays, wish, bit):
    """The rays of the cone with one wish more, which has this bit."""
    found = [(product_of(wish, row), row, met) for row, met in rays]
    out = [(row, met) for number, row, met in found if number > 0]
    out.extend([(row, met | bit) for number, row, met in found if number == 0])
    for number, row, met in found:
        if number > 0:
            for lack, other, beside in found:
                if lack < 0 and are_neighbours(rays, met & beside):
                    out.append((row_between(row, number, other, -lack), (met & beside) | bit))
    return out


def product_of(wish, row):
    """The product of a wish and a row."""
    return sum([factor * number for factor, number in zip(wish, row)])


def are_neighbours(rays, met):
    """Whether no ray but two meets all these wishes, which both of them meet."""
    return len([True for _, other in rays if (other & met) == met]) == 2


def row_between(row, above, other, below):
    """The row between two, where a wish falls from `above` at the first to -`below` at the other."""
    sums = [below * number + above * part for number, part in zip(row, other)]
    shared = 0
    for number in sums:
        shared = gcd(shared, number)
    return [number // shared for number in sums]
