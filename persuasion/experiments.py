"""Experiments, the splits of a prior that they make, and what splits are worth.

The functions whose names end in _for take arguments that were checked ahead.
"""

from persuasion.errors import InvalidExperiment, InvalidSplit, Unfit
from persuasion.ratios import (
    NIL, ONE, are_ascending, ascending, is_fraction, is_row_of_chances, over, plus, row_mix, row_over, row_product,
    row_sum, times,
)
from persuasion.settings import check_belief, check_setting, state_count, value_at

MOST_SIGNALS = 6


def is_split(setting, prior, value):
    """Whether a value, whatever it is, is a split of the prior."""
    check_setting(setting)
    check_belief(setting, prior)
    return is_split_for(prior, value)


def is_split_for(prior, value):
    """Whether a value, whatever it is, is a split of the prior."""
    if not isinstance(value, tuple):
        return False
    if not all([is_part(part, len(prior)) for part in value]):
        return False
    # Beliefs have the sum 1, as the prior has: so the weights have it, too.
    return are_ascending([belief for _, belief in value]) and mean_of(value) == prior


def is_part(value, states):
    """Whether a value, whatever it is, is a pair of a weight above 0 and a belief."""
    if not isinstance(value, tuple) or len(value) != 2:
        return False
    weight, belief = value
    return is_fraction(weight) and weight[0] > 0 and is_row_of_chances(belief, states)


def mean_of(split):
    """The sum of weights times beliefs."""
    return row_mix([weight for weight, _ in split], [belief for _, belief in split])


def check_split(prior, split):
    """InvalidSplit for no split of the prior."""
    if not is_split_for(prior, split):
        raise InvalidSplit(split)


def is_experiment(setting, value):
    """Whether a value, whatever it is, is an experiment of the setting's states."""
    check_setting(setting)
    return is_experiment_for(state_count(setting), value)


def is_experiment_for(states, value):
    """Whether a value, whatever it is, is an experiment of so many states."""
    if not isinstance(value, tuple) or len(value) != states:
        return False
    if not isinstance(value[0], tuple) or not 1 <= len(value[0]) <= MOST_SIGNALS:
        return False
    return all([is_row_of_chances(row, len(value[0])) for row in value])


def check_experiment(setting, experiment):
    """InvalidExperiment for no experiment of the setting's states."""
    if not is_experiment_for(state_count(setting), experiment):
        raise InvalidExperiment(experiment)


def split_of(setting, prior, experiment):
    """The split of the prior that the experiment makes."""
    check_setting(setting)
    check_belief(setting, prior)
    check_experiment(setting, experiment)
    weights = {}
    for k in range(len(experiment[0])):
        joint = [times(chance, row[k]) for chance, row in zip(prior, experiment)]
        weight = row_sum(joint)
        if weight != NIL:
            belief = row_over(joint, weight)
            weights[belief] = plus(weights.get(belief, NIL), weight)
    return split_by(weights)


def split_by(weights):
    """The split that has these weights, a dict by the beliefs."""
    return tuple([(weights[belief], belief) for belief in ascending(list(weights))])


def split_at(beliefs, weights):
    """The split at those of ascending beliefs whose weight is above 0."""
    return tuple([(weight, belief) for weight, belief in zip(weights, beliefs) if weight != NIL])


def experiment_of(setting, prior, split):
    """An experiment with a signal for each belief of the split, in order."""
    check_setting(setting)
    check_belief(setting, prior)
    check_split(prior, split)
    if len(split) > MOST_SIGNALS:
        raise Unfit(len(split))
    return tuple([signals_in(prior, split, state) for state in range(len(prior))])


def signals_in(prior, split, state):
    """The chances of the signals in a state; the first one is sure where the prior is 0."""
    if prior[state] == NIL:
        return (ONE,) + (NIL,) * (len(split) - 1)
    return tuple([over(times(weight, belief[state]), prior[state]) for weight, belief in split])


def split_worth(setting, prior, split):
    """The sum of the split's weights times the values at its beliefs."""
    check_setting(setting)
    check_belief(setting, prior)
    check_split(prior, split)
    return split_worth_for(setting, split)


def split_worth_for(setting, split):
    """The sum of the split's weights times the values at its beliefs."""
    return row_product([weight for weight, _ in split], [value_at(setting, belief) for _, belief in split])
