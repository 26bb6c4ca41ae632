"""Settings and beliefs; what actions pay and are worth; choices and values.

The functions whose names end in _at take arguments that were checked ahead.
"""

from persuasion.errors import InvalidAction, InvalidBelief, InvalidSetting, InvalidState
from persuasion.ratios import greatest, is_index, is_row, is_row_of_chances, row_product, unit_row, unit_rows


def is_setting(value):
    """Whether a value, whatever it is, is a setting."""
    if not isinstance(value, tuple) or len(value) != 2:
        return False
    pays, worths = value
    if not isinstance(pays, tuple) or not 1 <= len(pays) <= 5:
        return False
    if not isinstance(pays[0], tuple) or not 2 <= len(pays[0]) <= 4:
        return False
    many, states = len(pays), len(pays[0])
    return is_table(pays, many, states) and is_table(worths, many, states)


def is_table(value, many, states):
    """Whether a value, whatever it is, is a tuple of so many rows for so many states."""
    if not isinstance(value, tuple) or len(value) != many:
        return False
    return all([is_row(row, states) for row in value])


def state_count(setting):
    """How many states a setting has."""
    return len(setting[0][0])


def action_count(setting):
    """How many actions a setting has."""
    return len(setting[0])


def check_setting(setting):
    """InvalidSetting for no setting."""
    if not is_setting(setting):
        raise InvalidSetting(setting)


def check_belief(setting, belief):
    """InvalidBelief for no belief of the setting's states."""
    if not is_row_of_chances(belief, state_count(setting)):
        raise InvalidBelief(belief)


def check_action(setting, action):
    """InvalidAction for no index of one of the setting's actions."""
    if not is_index(action, action_count(setting)):
        raise InvalidAction(action)


def check_state(setting, state):
    """InvalidState for no index of one of the setting's states."""
    if not is_index(state, state_count(setting)):
        raise InvalidState(state)


def is_belief(setting, value):
    """Whether a value, whatever it is, is a belief of the setting's states."""
    check_setting(setting)
    return is_row_of_chances(value, state_count(setting))


def sure(setting, state):
    """The belief that is sure of the state."""
    check_setting(setting)
    check_state(setting, state)
    return unit_row(state, state_count(setting))


def pay(setting, action, belief):
    """What the action pays the receiver at the belief."""
    check_setting(setting)
    check_action(setting, action)
    check_belief(setting, belief)
    return row_product(setting[0][action], belief)


def worth(setting, action, belief):
    """What the action is worth to the sender at the belief."""
    check_setting(setting)
    check_action(setting, action)
    check_belief(setting, belief)
    return row_product(setting[1][action], belief)


def best_actions(setting, belief):
    """The ascending tuple of the actions than which none pays more."""
    check_setting(setting)
    check_belief(setting, belief)
    return best_actions_at(setting, belief)


def best_actions_at(setting, belief):
    """The ascending tuple of the actions than which none pays more."""
    paid = [row_product(row, belief) for row in setting[0]]
    most = greatest(paid)
    return tuple([action for action, number in enumerate(paid) if number == most])


def choice(setting, belief):
    """The least best action of the greatest worth."""
    check_setting(setting)
    check_belief(setting, belief)
    return choice_at(setting, belief)


def choice_at(setting, belief):
    """The least best action of the greatest worth."""
    most, worths = value_at(setting, belief), setting[1]
    best = best_actions_at(setting, belief)
    return [action for action in best if row_product(worths[action], belief) == most][0]


def value(setting, belief):
    """The greatest worth of the best actions."""
    check_setting(setting)
    check_belief(setting, belief)
    return value_at(setting, belief)


def value_at(setting, belief):
    """The greatest worth of the best actions."""
    worths = setting[1]
    best = best_actions_at(setting, belief)
    return greatest([row_product(worths[action], belief) for action in best])


def sure_values(setting):
    """The row of the values at the sure beliefs."""
    return tuple([value_at(setting, belief) for belief in unit_rows(state_count(setting))])
