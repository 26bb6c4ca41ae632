"""Prices above what is asked in a game, with multipliers: whether values are such.

What is asked at a, b, s is a table's number there and the pull. Multipliers
are reckoned as public ones that are alike whatever the other receiver is
advised, so that one way serves both.
"""

from persuasion.ratios import NIL, is_less, is_row, is_tuple_of, row_added, row_difference, row_mix
from persuasion.settings import is_table
from persuasion.tables import is_game_table, rows_of, sizes_of


def are_multipliers_of(game, value):
    """Whether a value, whatever it is, is multipliers of the game."""
    if not is_tuple_of(value, 2):
        return False
    first, second, _ = sizes_of(game[0])
    if not is_table(value[0], first, first) or not is_table(value[1], second, second):
        return False
    return are_from_nil(value[0] + value[1])


def are_public_multipliers_of(game, value):
    """Whether a value, whatever it is, is public multipliers of the game."""
    if not is_tuple_of(value, 2):
        return False
    first, second, _ = sizes_of(game[0])
    if not is_game_table(value[0], (first, second, first)) or not is_game_table(value[1], (first, second, second)):
        return False
    return are_from_nil(rows_of(value[0] + value[1]))


def are_from_nil(rows):
    """Whether no number of the rows is below 0."""
    return all([above >= 0 for row in rows for above, _ in row])


def are_prices_from(game, table, prices, multipliers):
    """Whether values, whatever they are, are prices from the table's numbers and the pulls on, and multipliers."""
    if not are_multipliers_of(game, multipliers):
        return False
    first, second, _ = sizes_of(game[0])
    alike = (tuple([(row,) * second for row in multipliers[0]]), (multipliers[1],) * first)
    return are_from_asked(game, table, prices, alike)


def are_public_prices_from(game, table, prices, multipliers):
    """Whether values, whatever they are, are such prices, and public multipliers."""
    return are_public_multipliers_of(game, multipliers) and are_from_asked(game, table, prices, multipliers)


def are_from_asked(game, table, prices, multipliers):
    """Whether a value, whatever it is, is prices from all that is asked by public multipliers on."""
    first, second, states = sizes_of(game[0])
    if not is_row(prices, states):
        return False
    for a in range(first):
        for b in range(second):
            asked = row_added(table[a][b], pull_at(game, multipliers, a, b))
            if any([is_less(price, number) for price, number in zip(prices, asked)]):
                return False
    return True


def pull_at(game, multipliers, a, b):
    """The pulls of a and b in all states, by public multipliers."""
    own, others = leads_at(game, a, b)
    return row_added(row_mix(multipliers[0][a][b], own), row_mix(multipliers[1][a][b], others))


def leads_at(game, a, b):
    """For each receiver a row for each own action: how much more theirs of a and b pays, in all states."""
    first, second = game[0], game[1]
    own = [row_difference(first[a][b], rows[b]) for rows in first]
    return (own, [row_difference(second[a][b], row) for row in second[a]])


def nil_table(game):
    """A table of the game's sizes that is 0 everywhere."""
    first, second, states = sizes_of(game[0])
    return (((NIL,) * states,) * second,) * first
