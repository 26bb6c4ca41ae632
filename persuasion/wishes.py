"""Wishes: what a sum of an outcome's numbers times a table is to be at least."""

from persuasion.errors import InvalidWishes
from persuasion.prices import nil_table
from persuasion.ratios import ONE, is_fraction, is_less, is_tuple_of, row_mix
from persuasion.tables import is_game_table, sizes_of, table_product

MOST_WISHES = 4


def check_wishes(game, wishes):
    """InvalidWishes for no tuple of few enough wishes."""
    if not isinstance(wishes, tuple) or len(wishes) > MOST_WISHES:
        raise InvalidWishes(None)
    for k, wish in enumerate(wishes):
        if not is_wish(game, wish):
            raise InvalidWishes(k)


def are_wishes(game, value):
    """Whether a value, whatever it is, is a tuple of few enough wishes."""
    if not isinstance(value, tuple) or len(value) > MOST_WISHES:
        return False
    return all([is_wish(game, wish) for wish in value])


def is_wish(game, value):
    """Whether a value, whatever it is, is a pair of a table of the game's sizes and a fraction."""
    if not is_tuple_of(value, 2):
        return False
    return is_game_table(value[0], sizes_of(game[0])) and is_fraction(value[1])


def are_kept(outcome, wishes):
    """Whether the outcome keeps all wishes."""
    return not any([is_less(table_product(outcome, table), number) for table, number in wishes])


def weighed_table(game, weights, wishes):
    """The sum of the weights times the tables of the wishes."""
    total = nil_table(game)
    for weight, (table, _) in zip(weights, wishes):
        total = tuple([rows_with(rows, others, weight) for rows, others in zip(total, table)])
    return total


def rows_with(rows, others, weight):
    """Rows with a weight times other ones added."""
    return tuple([row_mix((ONE, weight), (row, other)) for row, other in zip(rows, others)])
