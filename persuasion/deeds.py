"""Deeds, which change a setting, and pairs of a split and a plane, which some of them leave.

A deed is a tuple of its word and its parts. The functions whose names end in
_for take arguments that were checked ahead.
"""

from persuasion.errors import InvalidDeed, InvalidSplit
from persuasion.experiments import is_split_for, split_by, split_worth_for
from persuasion.planes import above_at_for
from persuasion.ratios import ONE, is_fraction, is_index, is_row, is_tuple_of, row_mix, row_product
from persuasion.roofs import met_for
from persuasion.settings import action_count, check_belief, check_setting, state_count

MOST_ACTIONS = 5


def is_new_number(setting, parts):
    """Whether values, whatever they are, are an action, a state and a fraction."""
    if len(parts) != 3 or not is_index(parts[0], action_count(setting)):
        return False
    return is_index(parts[1], state_count(setting)) and is_fraction(parts[2])


def is_new_action(setting, parts):
    """Whether values, whatever they are, are two rows, and there is room for one action more."""
    if len(parts) != 2 or action_count(setting) == MOST_ACTIONS:
        return False
    return all([is_row(row, state_count(setting)) for row in parts])


def is_spare_action(setting, parts):
    """Whether values, whatever they are, are one action, and it is not the only one."""
    actions = action_count(setting)
    return len(parts) == 1 and actions > 1 and is_index(parts[0], actions)


def is_order_of_actions(setting, parts):
    """Whether values, whatever they are, are one order of the actions."""
    return len(parts) == 1 and is_order(parts[0], action_count(setting))


def is_order_of_states(setting, parts):
    """Whether values, whatever they are, are one order of the states."""
    return len(parts) == 1 and is_order(parts[0], state_count(setting))


def is_order(value, many):
    """Whether a value, whatever it is, is a tuple of so many indexes, each once."""
    if not is_tuple_of(value, many):
        return False
    return all([is_index(k, many) for k in value]) and sorted(value) == list(range(many))


def is_factor_and_row(setting, parts):
    """Whether values, whatever they are, are a fraction above 0 and a row."""
    if len(parts) != 2 or not is_fraction(parts[0]):
        return False
    return parts[0][0] > 0 and is_row(parts[1], state_count(setting))


FORMS = {
    "pay": is_new_number, "worth": is_new_number, "action": is_new_action, "strike": is_spare_action,
    "order": is_order_of_actions, "states": is_order_of_states, "scale": is_factor_and_row, "lift": is_factor_and_row,
}


def fits(setting, value):
    """Whether a value, whatever it is, is a deed that fits."""
    check_setting(setting)
    return fits_for(setting, value)


def fits_for(setting, value):
    """Whether a value, whatever it is, is a deed that fits."""
    if not isinstance(value, tuple) or len(value) == 0 or not isinstance(value[0], str):
        return False
    if value[0] not in FORMS:
        return False
    has_form = FORMS[value[0]]
    return has_form(setting, value[1:])


def check_deed(setting, deed):
    """InvalidDeed for no deed that fits."""
    if not fits_for(setting, deed):
        raise InvalidDeed(deed)


def with_pay(setting, action, state, number):
    """The setting with another pay."""
    return (with_number(setting[0], action, state, number), setting[1])


def with_worth(setting, action, state, number):
    """The setting with another worth."""
    return (setting[0], with_number(setting[1], action, state, number))


def with_number(rows, k, state, number):
    """Rows with another number in the row at k."""
    row = rows[k]
    return rows[:k] + (row[:state] + (number,) + row[state + 1:],) + rows[k + 1:]


def with_action(setting, pays, worths):
    """The setting with one action more."""
    return (setting[0] + (pays,), setting[1] + (worths,))


def without_action(setting, action):
    """The setting with one action less."""
    return tuple([rows[:action] + rows[action + 1:] for rows in setting])


def with_actions_in(setting, order):
    """The setting with its actions in another order."""
    return tuple([in_order(rows, order) for rows in setting])


def with_states_in(setting, order):
    """The setting with its states in another order."""
    return tuple([tuple([in_order(row, order) for row in rows]) for rows in setting])


def in_order(parts, order):
    """The tuple of parts in another order."""
    return tuple([parts[k] for k in order])


def scaled(setting, factor, row):
    """The setting with pays a factor times as great, and a row added."""
    return (tuple([lifted_row(paid, factor, row) for paid in setting[0]]), setting[1])


def lifted(setting, factor, row):
    """The setting with worths a factor times as great, and a row added."""
    return (setting[0], tuple([lifted_row(worth, factor, row) for worth in setting[1]]))


def lifted_row(row, factor, added):
    """A factor times a row, and another one added."""
    return row_mix((factor, ONE), (row, added))


MAKERS = {
    "pay": with_pay, "worth": with_worth, "action": with_action, "strike": without_action, "order": with_actions_in,
    "states": with_states_in, "scale": scaled, "lift": lifted,
}


def behind(setting, deed):
    """The setting that the deed makes."""
    check_setting(setting)
    check_deed(setting, deed)
    return behind_for(setting, deed)


def behind_for(setting, deed):
    """The setting that the deed makes."""
    make = MAKERS[deed[0]]
    parts = deed[1:]
    return make(setting, *parts)


def is_pair(setting, prior, value):
    """Whether a value, whatever it is, is a pair for the prior."""
    check_setting(setting)
    check_belief(setting, prior)
    return is_pair_for(setting, prior, value)


def is_pair_for(setting, prior, value):
    """Whether a value, whatever it is, is a pair for the prior."""
    if not is_tuple_of(value, 2):
        return False
    split, plane = value
    if not is_split_for(prior, split) or not is_row(plane, state_count(setting)):
        return False
    return row_product(plane, prior) == split_worth_for(setting, split) and above_at_for(setting, plane) is None


def check_pair(setting, prior, pair):
    """InvalidSplit for no pair for the prior."""
    if not is_pair_for(setting, prior, pair):
        raise InvalidSplit(pair)


def any_pair(setting, prior):
    """Any pair for the prior."""
    check_setting(setting)
    check_belief(setting, prior)
    return met_for(setting, prior)


def led_prior(setting, deed, prior):
    """The prior led along by the deed."""
    check_setting(setting)
    check_deed(setting, deed)
    check_belief(setting, prior)
    return led_belief(deed, prior)


def led_belief(deed, belief):
    """A belief led along by the deed."""
    return in_order(belief, deed[1]) if deed[0] == "states" else belief


def led_number(deed, prior, number):
    """A height at the prior led along by the deed."""
    return lifted_row((number,), deed[1], (row_product(deed[2], prior),))[0] if deed[0] == "lift" else number


def led_pair(setting, deed, prior, pair):
    """The pair led along by the deed."""
    check_setting(setting)
    check_deed(setting, deed)
    check_belief(setting, prior)
    check_pair(setting, prior, pair)
    return led_pair_for(deed, pair)


def led_pair_for(deed, pair):
    """The pair led along by the deed."""
    split, plane = pair
    if deed[0] == "states":
        return (split_by({led_belief(deed, belief): weight for weight, belief in split}), in_order(plane, deed[1]))
    if deed[0] == "lift":
        return (split, lifted_row(plane, deed[1], deed[2]))
    return pair


def leaves(setting, deed, prior, pair):
    """Whether the pair, led along, is one for the prior, led along, behind the deed."""
    check_setting(setting)
    check_deed(setting, deed)
    check_belief(setting, prior)
    check_pair(setting, prior, pair)
    return leaves_for(behind_for(setting, deed), deed, prior, pair)


def leaves_for(other, deed, prior, pair):
    """Whether the pair, led along, is one for the prior, led along, in the other setting, which the deed made."""
    return is_pair_for(other, led_belief(deed, prior), led_pair_for(deed, pair))
