"""Which papers show claims about settings.

Each function whose name begins with shows_ takes the paper, whatever it is, a
setting, and the further parts of the claim, whatever they are.
"""

from persuasion.cheap import corners_from, is_transparent_for, levels_of
from persuasion.deeds import behind_for, fits_for, is_pair_for, led_belief, led_number
from persuasion.disclosure import gainer_for, is_nil_outside, lots_of
from persuasion.experiments import is_split_for, split_worth_for
from persuasion.planes import are_multipliers_for
from persuasion.ratios import (
    NIL, is_fraction, is_index, is_less, is_row, is_row_of_chances, is_tuple_of, row_mix, row_product,
)
from persuasion.settings import (
    action_count, best_actions_at, choice_at, is_setting, state_count, sure_values, value_at,
)


def is_belief_in(setting, value):
    """Whether a value, whatever it is, is a belief of the setting's states."""
    return is_row_of_chances(value, state_count(setting))


def is_plane_in(setting, value):
    """Whether a value, whatever it is, is a row of a fraction for each state."""
    return is_row(value, state_count(setting))


def is_split_of_worth(setting, prior, split, number):
    """Whether values, whatever they are, are a prior, a split of it, and its worth."""
    if not is_belief_in(setting, prior) or not is_split_for(prior, split):
        return False
    return is_fraction(number) and split_worth_for(setting, split) == number


def is_value_above(setting, plane, belief):
    """Whether a value, whatever it is, is a belief at which the value is above the plane's height."""
    return is_belief_in(setting, belief) and is_less(row_product(plane, belief), value_at(setting, belief))


def shows_split(paper, setting, prior, split, number):
    """Whether the split is one of the prior, of this worth."""
    return is_tuple_of(paper, 0) and is_split_of_worth(setting, prior, split, number)


def shows_cheap(paper, setting, prior, level):
    """Whether the paper is a split that secures the level, and a barrier to each greater one."""
    if not is_belief_in(setting, prior) or not is_transparent_for(setting) or not is_tuple_of(paper, 2):
        return False
    if not is_fraction(level) or level not in levels_of(setting):
        return False
    split, rows = paper
    if not is_split_for(prior, split) or any([is_less(value_at(setting, belief), level) for _, belief in split]):
        return False
    greater = [other for other in levels_of(setting) if is_less(level, other)]
    if not is_tuple_of(rows, len(greater)):
        return False
    return all([is_barrier(setting, prior, other, row) for other, row in zip(greater, rows)])


def is_barrier(setting, prior, level, value):
    """Whether a value, whatever it is, is a barrier between the prior and the level."""
    if not is_plane_in(setting, value):
        return False
    height = row_product(value, prior)
    return all([is_less(row_product(value, corner), height) for corner in corners_from(setting, level)])


def shows_disclosed(paper, setting):
    """Whether the paper is a sceptical answer to each lot, in order."""
    lots = lots_of(state_count(setting))
    if not is_tuple_of(paper, len(lots)):
        return False
    return all([is_sceptical(setting, lot, answer) for lot, answer in zip(lots, paper)])


def is_sceptical(setting, lot, value):
    """Whether a value, whatever it is, is a sceptical answer to the lot."""
    if not is_tuple_of(value, 2):
        return False
    action, belief = value
    if not is_index(action, action_count(setting)) or not is_belief_in(setting, belief):
        return False
    if not is_nil_outside(belief, lot) or action not in best_actions_at(setting, belief):
        return False
    return gainer_for(setting, lot, sure_values(setting), action) is None


def shows_not_disclosed(paper, setting):
    """Whether the paper is a lot and reasons against it."""
    if not is_tuple_of(paper, 2) or not is_lot(state_count(setting), paper[0]):
        return False
    lot, reasons = paper
    if not is_tuple_of(reasons, action_count(setting)):
        return False
    return all([is_reason(setting, lot, action, reason) for action, reason in enumerate(reasons)])


def is_lot(states, value):
    """Whether a value, whatever it is, is a lot of so many states."""
    if not isinstance(value, tuple) or not all([is_index(state, states) for state in value]):
        return False
    return value in lots_of(states)


def is_reason(setting, lot, action, value):
    """Whether a value, whatever it is, is a reason against answering the lot by the action."""
    if not is_tuple_of(value, 2) or not isinstance(value[0], str):
        return False
    word, told = value
    if word == "gains":
        return is_index(told, state_count(setting)) and told in lot and gains_in(setting, action, told)
    if word != "beaten" or not is_row_of_chances(told, action_count(setting)):
        return False
    pays = setting[0]
    mean = row_mix(told, pays)
    return all([is_less(pays[action][state], mean[state]) for state in lot])


def gains_in(setting, action, state):
    """Whether the action is worth more in the state than the state's sure answer."""
    return is_less(sure_values(setting)[state], setting[1][action][state])


def shows_roof(paper, setting, prior, number):
    """Whether the paper is a split of this worth, a plane of this height at the prior, and its multipliers."""
    if not is_tuple_of(paper, 3):
        return False
    split, plane, told = paper
    if not is_split_of_worth(setting, prior, split, number) or not is_plane_in(setting, plane):
        return False
    return row_product(plane, prior) == number and are_multipliers_for(setting, plane, told)


def shows_above(paper, setting, plane):
    """Whether the paper is multipliers of the plane."""
    return is_plane_in(setting, plane) and are_multipliers_for(setting, plane, paper)


def shows_not_above(paper, setting, plane):
    """Whether the paper is a belief at which the value is above the plane's height."""
    return is_plane_in(setting, plane) and is_value_above(setting, plane, paper)


def shows_helps(paper, setting, prior):
    """Whether the paper is a split of the prior whose worth is above the value there."""
    if not is_belief_in(setting, prior) or not is_split_for(prior, paper):
        return False
    return is_less(value_at(setting, prior), split_worth_for(setting, paper))


def shows_no_help(paper, setting, prior):
    """Whether the paper is a plane with the value for its height at the prior, and its multipliers."""
    if not is_belief_in(setting, prior) or not is_tuple_of(paper, 2) or not is_plane_in(setting, paper[0]):
        return False
    plane, told = paper
    return row_product(plane, prior) == value_at(setting, prior) and are_multipliers_for(setting, plane, told)


def shows_never(paper, setting):
    """Whether the paper tells of each action that its sender row is a plane above, or by which mix it is not needed."""
    if not is_tuple_of(paper, action_count(setting)):
        return False
    if not all([is_tuple_of(told, 2) and isinstance(told[0], str) for told in paper]):
        return False
    words = [word for word, _ in paper]
    return all([is_never_part(setting, words, action, told) for action, (_, told) in enumerate(paper)])


def is_never_part(setting, words, action, value):
    """Whether a value, whatever it is, shows what the action's word tells."""
    pays, worths = setting
    if words[action] == "above":
        return are_multipliers_for(setting, worths[action], value)
    if words[action] != "under" or not is_row_of_chances(value, len(words)):
        return False
    if not all([share == NIL or word == "above" for share, word in zip(value, words)]):
        return False
    return not any([is_less(mean, number) for mean, number in zip(row_mix(value, pays), pays[action])])


def shows_all_best(paper, setting):
    """Whether the paper is multipliers of the plane of telling all."""
    return are_multipliers_for(setting, sure_values(setting), paper)


def shows_not_all_best(paper, setting):
    """Whether the paper is a belief at which the value is above the worth of telling all."""
    return is_value_above(setting, sure_values(setting), paper)


def shows_choice(paper, setting, belief, action):
    """Whether the action is the choice at the belief."""
    if not is_tuple_of(paper, 0) or not is_belief_in(setting, belief):
        return False
    return is_index(action, action_count(setting)) and choice_at(setting, belief) == action


def shows_change(paper, setting, deed, other):
    """Whether the deed fits and makes the other setting."""
    if not is_tuple_of(paper, 0) or not fits_for(setting, deed) or not is_setting(other):
        return False
    return behind_for(setting, deed) == other


def shows_no_change(paper, setting, deed):
    """Whether the deed, whatever it is, does not fit."""
    return is_tuple_of(paper, 0) and not fits_for(setting, deed)


def shows_same_roof(paper, setting, deed, prior):
    """Whether the paper is two pairs that show the same roof, led along, at the prior ahead and behind."""
    return are_pairs_about(paper, setting, deed, prior) and are_worths_led(paper, setting, deed, prior)


def shows_other_roof(paper, setting, deed, prior):
    """Whether the paper is two pairs that show other roofs at the prior ahead and behind."""
    return are_pairs_about(paper, setting, deed, prior) and not are_worths_led(paper, setting, deed, prior)


def are_pairs_about(paper, setting, deed, prior):
    """Whether values, whatever they are, are a deed that fits, a prior, and pairs for it ahead and behind."""
    if not fits_for(setting, deed) or not is_belief_in(setting, prior) or not is_tuple_of(paper, 2):
        return False
    if not is_pair_for(setting, prior, paper[0]):
        return False
    return is_pair_for(behind_for(setting, deed), led_belief(deed, prior), paper[1])


def are_worths_led(pairs, setting, deed, prior):
    """Whether the second pair's height is that of the first one, led along."""
    ahead, after = [plane for _, plane in pairs]
    return led_number(deed, prior, row_product(ahead, prior)) == row_product(after, led_belief(deed, prior))


COUNTS = {
    "split": 4, "cheap": 3, "disclosed": 1, "not disclosed": 1, "roof at": 3, "above": 2, "not above": 2,
    "helps at": 2, "does not help at": 2, "never helps": 1, "all told best": 1, "not all told best": 1, "choice": 3,
    "change": 3, "no change": 2, "same roof": 3, "other roof": 3,
}
CHECKS = {
    "split": shows_split, "cheap": shows_cheap, "disclosed": shows_disclosed, "not disclosed": shows_not_disclosed,
    "roof at": shows_roof, "above": shows_above, "not above": shows_not_above, "helps at": shows_helps,
    "does not help at": shows_no_help, "never helps": shows_never, "all told best": shows_all_best,
    "not all told best": shows_not_all_best, "choice": shows_choice, "change": shows_change,
    "no change": shows_no_change, "same roof": shows_same_roof, "other roof": shows_other_roof,
}


def shows_of_setting(word, parts, paper):
    """Whether the word and the parts are a claim about a setting, and the paper, whatever it is, shows it."""
    if word not in CHECKS or len(parts) != COUNTS[word] or not is_setting(parts[0]):
        return False
    shows = CHECKS[word]
    return shows(paper, *parts)
