"""Tables of a game, and how both receivers' actions and signals stand in them.

A table has a tuple for each action of the first receiver, in it a row for
each one of the second receiver, in it a number for each state. What is told
of one receiver stands in tables that were turned so that this one is first.
"""

from persuasion.ratios import is_less, row_mix, row_product, row_sum, times
from persuasion.settings import is_table


def has_up_to(value, most):
    """Whether a value, whatever it is, is a tuple of one thing up to so many."""
    return isinstance(value, tuple) and 1 <= len(value) <= most


def sizes_of(table):
    """How many actions the first and the second receiver have, and how many states there are."""
    return (len(table), len(table[0]), len(table[0][0]))


def is_game_table(value, sizes):
    """Whether a value, whatever it is, is a table of fractions of these sizes."""
    if not isinstance(value, tuple) or len(value) != sizes[0]:
        return False
    return all([is_table(rows, sizes[1], sizes[2]) for rows in value])


def rows_of(table):
    """The rows of a table, one behind the other."""
    return [row for rows in table for row in rows]


def rows_product(rows, others):
    """The sum of the products, number by number, of rows in order."""
    return row_sum([row_product(row, other) for row, other in zip(rows, others)])


def table_product(table, other):
    """The sum of the products, number by number, of two tables."""
    return rows_product(rows_of(table), rows_of(other))


def turned(rows):
    """The columns as rows."""
    return tuple(zip(*rows))


def seen_by(receiver, table):
    """The table with the receiver's own actions first."""
    return table if receiver == 0 else turned(table)


def breach_in(pays, outcome):
    """The least pair (ADVISED, OTHER) by which who is first disobeys, in tables that are turned so; None."""
    for advised, rows in enumerate(outcome):
        for other in range(len(outcome)):
            if is_less(rows_product(rows, pays[advised]), rows_product(rows, pays[other])):
                return (advised, other)
    return None


def is_kept_in_public(pays, outcome):
    """Whether who is first gains by no other action wherever both see what both are advised."""
    for advised, rows in enumerate(outcome):
        for k, row in enumerate(rows):
            most = row_product(row, pays[advised][k])
            if any([is_less(most, row_product(row, other[k])) for other in pays]):
                return False
    return True


def loads_of(prior, information, mixes):
    """For each signal of who is first how likely it, the other one's action and the state are.

    The information has, for each state, a row for each of these signals; the
    mixes are the other one's. Each load has a row for each of their actions.
    """
    out = []
    for signal in range(len(information[0])):
        load = []
        for shares in turned(mixes):
            chances = [row_product(table[signal], shares) for table in information]
            load.append(tuple([times(number, chance) for number, chance in zip(prior, chances)]))
        out.append(load)
    return out


def is_best_answer(pays, loads, mixes):
    """Whether each mix of who is first pays, by the load of its signal, no less than any action."""
    for load, mix in zip(loads, mixes):
        paid = [rows_product(load, rows) for rows in pays]
        most = row_product(mix, paid)
        if any([is_less(most, number) for number in paid]):
            return False
    return True


def joined(loads, shares):
    """The sum of the shares times the loads, a share for each signal."""
    return tuple([row_mix(shares, rows) for rows in turned(loads)])
