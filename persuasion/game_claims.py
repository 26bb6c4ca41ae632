"""Which papers show claims about games.

Each function whose name begins with shows_ takes the paper, whatever it is, a
game, a prior of it, and the further parts of the claim, whatever they are.
"""

from persuasion.games import breach_for, is_game, is_outcome_for, is_publicly_obedient_for
from persuasion.prices import are_prices_from, are_public_prices_from, nil_table
from persuasion.ratios import is_fraction, is_index, is_less, is_row, is_row_of_chances, is_tuple_of, row_product
from persuasion.tables import rows_product, seen_by, sizes_of, table_product
from persuasion.wishes import are_kept, are_wishes, weighed_table


def shows_obedient(paper, game, prior, outcome):
    """Whether the outcome is obedient."""
    return is_tuple_of(paper, 0) and is_obedient_one(game, prior, outcome)


def is_obedient_one(game, prior, value):
    """Whether a value, whatever it is, is an obedient outcome of the prior."""
    return is_outcome_for(game, prior, value) and breach_for(game, value) is None


def shows_not_obedient(paper, game, prior, outcome):
    """Whether the paper is a receiver, an action advised and another one by which the outcome is not obedient."""
    if not is_outcome_for(game, prior, outcome) or not is_tuple_of(paper, 3) or not is_index(paper[0], 2):
        return False
    receiver, advised, other = paper
    pays, rows = seen_by(receiver, game[receiver]), seen_by(receiver, outcome)
    if not is_index(advised, len(rows)) or not is_index(other, len(rows)):
        return False
    return is_less(rows_product(rows[advised], pays[advised]), rows_product(rows[advised], pays[other]))


def shows_private(paper, game, prior, number):
    """Whether the paper is an obedient outcome of this worth and prices with multipliers that come to it."""
    if not is_fraction(number) or not is_tuple_of(paper, 3):
        return False
    outcome, prices, told = paper
    if not is_obedient_one(game, prior, outcome) or not are_prices_from(game, game[2], prices, told):
        return False
    return table_product(outcome, game[2]) == number and row_product(prior, prices) == number


def shows_public(paper, game, prior, number):
    """Whether the paper is a publicly obedient outcome of this worth and public prices that come to it."""
    if not is_fraction(number) or not is_tuple_of(paper, 3):
        return False
    outcome, prices, told = paper
    if not is_outcome_for(game, prior, outcome) or not is_publicly_obedient_for(game, outcome):
        return False
    if not are_public_prices_from(game, game[2], prices, told):
        return False
    return table_product(outcome, game[2]) == number and row_product(prior, prices) == number


def shows_no_public(paper, game, prior):
    """Whether the paper is prices from the public pulls alone on that come to less than 0."""
    if not is_tuple_of(paper, 2) or not are_public_prices_from(game, nil_table(game), paper[0], paper[1]):
        return False
    return row_product(prior, paper[0])[0] < 0


def shows_brought(paper, game, prior, wishes):
    """Whether the paper is an obedient outcome that keeps the wishes."""
    return are_wishes(game, wishes) and is_obedient_one(game, prior, paper) and are_kept(paper, wishes)


def shows_barred(paper, game, prior, wishes):
    """Whether the paper is weights of the wishes, prices and multipliers that bar them."""
    if not are_wishes(game, wishes) or not is_tuple_of(paper, 3) or not is_row(paper[0], len(wishes)):
        return False
    weights, prices, told = paper
    if any([above < 0 for above, _ in weights]):
        return False
    if not are_prices_from(game, weighed_table(game, weights, wishes), prices, told):
        return False
    return is_less(row_product(prior, prices), row_product(weights, [number for _, number in wishes]))


COUNTS = {
    "obedient": 3, "not obedient": 3, "best private": 3, "best public": 3, "no public": 2, "can be brought": 3,
    "cannot be brought": 3,
}
CHECKS = {
    "obedient": shows_obedient, "not obedient": shows_not_obedient, "best private": shows_private,
    "best public": shows_public, "no public": shows_no_public, "can be brought": shows_brought,
    "cannot be brought": shows_barred,
}


def shows_of_game(word, parts, paper):
    """Whether the word and the parts are a claim about a game, and the paper, whatever it is, shows it."""
    if word not in CHECKS or len(parts) != COUNTS[word] or not is_game(parts[0]):
        return False
    if not is_row_of_chances(parts[1], sizes_of(parts[0][0])[2]):
        return False
    shows = CHECKS[word]
    return shows(paper, *parts)
