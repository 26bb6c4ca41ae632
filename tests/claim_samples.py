"""A checker from the words of point 31, by sums of its own, and claims with papers, for the tests."""

from itertools import chain, combinations

from game_samples import (
    are_prices_above_by_sums, are_prices_by_sums, disobedience, is_outcome_by_sums, is_public_by_sums, sum_of, weighed,
)
from persuasion.errors import InvalidText
from persuasion.sheets import read_sheet
from samples import (
    at, corners_by_equations, is_best, is_chances, is_row_of, is_split_by_sums, number_of, numbers, row,
    value_at,
)
from sheet_samples import BARRED, LETTERS, behind_by_words, is_pair_by_sums, led_row_by_words, text_by_words


def is_tuple(value, many):
    return type(value) is tuple and len(value) == many


def is_number(value):
    return is_row_of((value,), 1)


def is_index(value, many):
    return type(value) is int and 0 <= value < many


def is_setting(value):
    if not is_tuple(value, 2) or type(value[0]) is not tuple or not 1 <= len(value[0]) <= 5:
        return False
    states = len(value[0][0]) if type(value[0][0]) is tuple else 0
    if not 2 <= states <= 4 or not is_tuple(value[1], len(value[0])):
        return False
    return all(is_row_of(told, states) for side in value for told in side)


def is_table_of(value, sizes):
    first, second, states = sizes
    return is_tuple(value, first) and all(
        is_tuple(part, second) and all(is_row_of(told, states) for told in part) for part in value
    )


def is_game(value):
    if not is_tuple(value, 3):
        return False
    sizes, told = [], value[0]
    for _ in range(3):
        if type(told) is not tuple or not 1 <= len(told) <= 3:
            return False
        sizes.append(len(told))
        told = told[0]
    return all(is_table_of(part, sizes) for part in value)


def game_sizes(game):
    return (len(game[0]), len(game[0][0]), len(game[0][0][0]))


def worth_of_split(setting, split):
    return sum(number_of(weight) * value_at(setting, belief) for weight, belief in split)


def are_multipliers(setting, plane, rows):
    """Whether rows are multipliers of a plane, from the words of point 12."""
    pays, worths = [[numbers(told) for told in side] for side in setting]
    many, states = len(pays), len(pays[0])
    if not is_tuple(rows, many) or not all(is_row_of(told, many) for told in rows):
        return False
    mult = [numbers(told) for told in rows]
    return min(min(told) for told in mult) >= 0 and all(
        number_of(plane[s]) >= worths[a][s] + sum(mult[a][c] * (pays[a][s] - pays[c][s]) for c in range(many))
        for a in range(many) for s in range(states)
    )


def is_value_over(setting, plane, belief):
    return is_chances(belief, len(plane)) and value_at(setting, belief) > at(plane, belief)


def all_told(setting):
    states = range(len(setting[0][0]))
    return row(*[value_at(setting, row(*[int(k == s) for k in states])) for s in states])


def split_claim(paper, setting, prior, split, number):
    return is_tuple(paper, 0) and is_chances(prior, len(setting[0][0])) and is_split_by_sums(prior, split) and (
        is_number(number) and worth_of_split(setting, split) == number_of(number)
    )


def cheap_claim(paper, setting, prior, level):
    worths = [numbers(told) for told in setting[1]]
    if not is_chances(prior, len(worths[0])) or any(len(set(told)) > 1 for told in worths) or not is_number(level):
        return False
    levels = sorted(set(told[0] for told in worths))
    if number_of(level) not in levels or not is_tuple(paper, 2) or not is_split_by_sums(prior, paper[0]):
        return False
    if any(value_at(setting, belief) < number_of(level) for _, belief in paper[0]):
        return False
    greater = [number for number in levels if number > number_of(level)]
    if not is_tuple(paper[1], len(greater)) or not all(is_row_of(told, len(prior)) for told in paper[1]):
        return False
    for number, told in zip(greater, paper[1]):
        for action, rows in enumerate(worths):
            if rows[0] >= number:
                if any(at(told, prior) <= at(told, corner) for corner in corners_by_equations(setting, action)):
                    return False
    return True


def lots_of(states):
    every = chain.from_iterable(combinations(range(states), many) for many in range(1, states + 1))
    return sorted(every)


def is_gain(setting, action, state):
    return number_of(setting[1][action][state]) > number_of(all_told(setting)[state])


def disclosed_claim(paper, setting):
    states = len(setting[0][0])
    lots = lots_of(states)
    if not is_tuple(paper, len(lots)):
        return False
    for lot, told in zip(lots, paper):
        if not is_tuple(told, 2) or not is_index(told[0], len(setting[0])) or not is_chances(told[1], states):
            return False
        if any(number_of(told[1][s]) != 0 for s in range(states) if s not in lot):
            return False
        if not is_best(setting, *told) or any(is_gain(setting, told[0], s) for s in lot):
            return False
    return True


def not_disclosed_claim(paper, setting):
    states, actions = len(setting[0][0]), len(setting[0])
    if not is_tuple(paper, 2) or type(paper[0]) is not tuple or not all(is_index(s, states) for s in paper[0]):
        return False
    lot, reasons = paper
    if lot not in lots_of(states) or not is_tuple(reasons, actions):
        return False
    for action, told in enumerate(reasons):
        if not is_tuple(told, 2) or type(told[0]) is not str:
            return False
        if told[0] == "gains":
            if not is_index(told[1], states) or told[1] not in lot or not is_gain(setting, action, told[1]):
                return False
        elif told[0] == "beaten":
            if not is_chances(told[1], actions):
                return False
            mean = [at(told[1], [rows[s] for rows in setting[0]]) for s in range(states)]
            if any(mean[s] <= number_of(setting[0][action][s]) for s in lot):
                return False
        else:
            return False
    return True


def roof_claim(paper, setting, prior, number):
    states = len(setting[0][0])
    if not is_chances(prior, states) or not is_number(number) or not is_tuple(paper, 3):
        return False
    split, plane, rows = paper
    if not split_claim((), setting, prior, split, number) or not is_row_of(plane, states):
        return False
    return at(plane, prior) == number_of(number) and are_multipliers(setting, plane, rows)


def above_claim(paper, setting, plane):
    return is_row_of(plane, len(setting[0][0])) and are_multipliers(setting, plane, paper)


def not_above_claim(paper, setting, plane):
    return is_row_of(plane, len(setting[0][0])) and is_value_over(setting, plane, paper)


def helps_claim(paper, setting, prior):
    if not is_chances(prior, len(setting[0][0])) or not is_split_by_sums(prior, paper):
        return False
    return worth_of_split(setting, paper) > value_at(setting, prior)


def no_help_claim(paper, setting, prior):
    if not is_chances(prior, len(setting[0][0])) or not is_tuple(paper, 2) or not is_row_of(paper[0], len(prior)):
        return False
    return at(paper[0], prior) == value_at(setting, prior) and are_multipliers(setting, *paper)


def never_claim(paper, setting):
    pays, worths = setting
    if not is_tuple(paper, len(pays)) or not all(is_tuple(told, 2) and type(told[0]) is str for told in paper):
        return False
    for action, (word, told) in enumerate(paper):
        if word == "above":
            if not are_multipliers(setting, worths[action], told):
                return False
        elif word == "under":
            if not is_chances(told, len(pays)):
                return False
            if any(number_of(share) and paper[k][0] != "above" for k, share in enumerate(told)):
                return False
            means = [at(told, [rows[s] for rows in pays]) for s in range(len(pays[0]))]
            if any(number_of(pays[action][s]) > mean for s, mean in enumerate(means)):
                return False
        else:
            return False
    return True


def all_best_claim(paper, setting):
    return are_multipliers(setting, all_told(setting), paper)


def not_all_best_claim(paper, setting):
    return is_value_over(setting, all_told(setting), paper)


def choice_claim(paper, setting, belief, action):
    if not is_tuple(paper, 0) or not is_chances(belief, len(setting[0][0])) or not is_index(action, len(setting[0])):
        return False
    number = value_at(setting, belief)
    best = [k for k in range(len(setting[0])) if is_best(setting, k, belief)]
    return action == min(k for k in best if at(setting[1][k], belief) == number)


def is_order(value, many):
    return is_tuple(value, many) and all(is_index(k, many) for k in value) and len(set(value)) == many


def fits_by_words(setting, deed):
    """Whether a value is a deed that fits, from the words of point 26."""
    actions, states = len(setting[0]), len(setting[0][0])
    if type(deed) is not tuple or len(deed) == 0 or type(deed[0]) is not str:
        return False
    word, parts = deed[0], deed[1:]
    if word in ("pay", "worth"):
        return len(parts) == 3 and is_index(parts[0], actions) and is_index(parts[1], states) and is_number(parts[2])
    if word == "action":
        return len(parts) == 2 and all(is_row_of(told, states) for told in parts) and actions < 5
    if word == "strike":
        return len(parts) == 1 and is_index(parts[0], actions) and actions > 1
    if word in ("order", "states"):
        return len(parts) == 1 and is_order(parts[0], actions if word == "order" else states)
    if word in ("scale", "lift"):
        return len(parts) == 2 and is_number(parts[0]) and parts[0][0] > 0 and is_row_of(parts[1], states)
    return False


def change_claim(paper, setting, deed, other):
    if not is_tuple(paper, 0) or not fits_by_words(setting, deed) or not is_setting(other):
        return False
    return behind_by_words(setting, deed) == other


def no_change_claim(paper, setting, deed):
    return is_tuple(paper, 0) and not fits_by_words(setting, deed)


def roofs_claim(paper, setting, deed, prior, is_same):
    if not fits_by_words(setting, deed) or not is_chances(prior, len(setting[0][0])) or not is_tuple(paper, 2):
        return False
    led, other = led_row_by_words(deed, prior), behind_by_words(setting, deed)
    if not is_pair_by_sums(setting, prior, paper[0]) or not is_pair_by_sums(other, led, paper[1]):
        return False
    number = at(paper[0][1], prior)
    if deed[0] == "lift":
        number = number_of(deed[1]) * number + at(deed[2], prior)
    return (at(paper[1][1], led) == number) is is_same


def same_claim(paper, setting, deed, prior):
    return roofs_claim(paper, setting, deed, prior, True)


def other_claim(paper, setting, deed, prior):
    return roofs_claim(paper, setting, deed, prior, False)


def is_obedient_one(game, prior, value):
    return is_outcome_by_sums(game, prior, value) and min(disobedience(game, value).values()) >= 0


def obedient_claim(paper, game, prior, outcome):
    return is_tuple(paper, 0) and is_obedient_one(game, prior, outcome)


def not_obedient_claim(paper, game, prior, outcome):
    if not is_outcome_by_sums(game, prior, outcome) or not is_tuple(paper, 3):
        return False
    if not all(type(part) is int for part in paper):
        return False
    return disobedience(game, outcome).get(paper, 0) < 0


def best_claim(paper, game, prior, number, public):
    if not is_number(number) or not is_tuple(paper, 3) or not is_outcome_by_sums(game, prior, paper[0]):
        return False
    outcome, prices, multipliers = paper
    if not (is_public_by_sums(game, outcome) if public else is_obedient_one(game, prior, outcome)):
        return False
    if sum_of(outcome, game[2]) != number_of(number):
        return False
    return are_prices_above_by_sums(game, prices, multipliers, public) and at(prices, prior) == number_of(number)


def private_claim(paper, game, prior, number):
    return best_claim(paper, game, prior, number, False)


def public_claim(paper, game, prior, number):
    return best_claim(paper, game, prior, number, True)


def no_public_claim(paper, game, prior):
    if not is_tuple(paper, 2) or not are_prices_by_sums(game, lambda place: 0, *paper, public=True):
        return False
    return at(paper[0], prior) < 0


def are_wishes(game, value):
    return type(value) is tuple and len(value) <= 4 and all(
        is_tuple(wish, 2) and is_table_of(wish[0], game_sizes(game)) and is_number(wish[1]) for wish in value
    )


def brought_claim(paper, game, prior, wishes):
    if not are_wishes(game, wishes) or not is_obedient_one(game, prior, paper):
        return False
    return all(sum_of(paper, told) >= number_of(number) for told, number in wishes)


def barred_claim(paper, game, prior, wishes):
    if not are_wishes(game, wishes) or not is_tuple(paper, 3) or not is_row_of(paper[0], len(wishes)):
        return False
    weights, prices, multipliers = paper
    if any(number < 0 for number in numbers(weights)):
        return False
    if not are_prices_by_sums(game, lambda place: weighed(wishes, weights, place), prices, multipliers):
        return False
    return at(prices, prior) < sum(number_of(w) * number_of(x) for w, (_, x) in zip(weights, wishes))


def is_name(value):
    if type(value) is not str or not 1 <= len(value) <= 8:
        return False
    return all(sign in LETTERS for sign in value) and value not in BARRED


def are_names(value, many):
    return is_tuple(value, many) and all(is_name(name) for name in value) and len(set(value)) == many


def is_sheet(value):
    if not is_tuple(value, 4) or not is_setting(value[2]):
        return False
    states, actions, setting, priors = value
    if not are_names(states, len(setting[0][0])) or not are_names(actions, len(setting[0])):
        return False
    if type(priors) is not tuple or len(priors) > 8:
        return False
    if not all(is_tuple(kept, 2) and is_name(kept[0]) for kept in priors):
        return False
    names = [name for name, _ in priors]
    return names == sorted(set(names)) and all(is_chances(belief, len(states)) for _, belief in priors)


def read_claim(paper, text, sheet):
    return is_tuple(paper, 0) and is_sheet(sheet) and text == text_by_words(sheet)


def not_read_claim(paper, text, line):
    if not is_tuple(paper, 0) or type(line) is not int:
        return False
    try:
        read_sheet(text)
    except InvalidText as error:
        return error.line == line
    return False


OF_SETTINGS = {
    "split": (5, split_claim), "cheap": (4, cheap_claim), "disclosed": (2, disclosed_claim),
    "not disclosed": (2, not_disclosed_claim), "roof at": (4, roof_claim), "above": (3, above_claim),
    "not above": (3, not_above_claim), "helps at": (3, helps_claim), "does not help at": (3, no_help_claim),
    "never helps": (2, never_claim), "all told best": (2, all_best_claim), "not all told best": (2, not_all_best_claim),
    "choice": (4, choice_claim), "change": (4, change_claim), "no change": (3, no_change_claim),
    "same roof": (4, same_claim), "other roof": (4, other_claim),
}
OF_GAMES = {
    "obedient": (4, obedient_claim), "not obedient": (4, not_obedient_claim), "best private": (4, private_claim),
    "best public": (4, public_claim), "no public": (3, no_public_claim), "can be brought": (4, brought_claim),
    "cannot be brought": (4, barred_claim),
}
OF_TEXTS = {"read": (3, read_claim), "not read": (3, not_read_claim)}
KINDS = {**OF_SETTINGS, **OF_GAMES, **OF_TEXTS}


def accepts_by_words(claim, paper):
    """Whether a value is a claim and another one a paper for it, from the words of point 31."""
    if type(claim) is not tuple or len(claim) == 0 or type(claim[0]) is not str or claim[0] not in KINDS:
        return False
    many, check = KINDS[claim[0]]
    if len(claim) != many:
        return False
    if claim[0] in OF_SETTINGS and not is_setting(claim[1]):
        return False
    if claim[0] in OF_TEXTS and type(claim[1]) is not str:
        return False
    if claim[0] in OF_GAMES and not (is_game(claim[1]) and is_chances(claim[2], game_sizes(claim[1])[2])):
        return False
    return check(paper, *claim[1:])
