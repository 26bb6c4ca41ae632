"""When telling helps, and when telling all is best.

The functions whose names end in _for take arguments that were checked ahead.
"""

from persuasion.cells import cell_corners_in, is_full_in
from persuasion.planes import above_at_for
from persuasion.ratios import ONE, is_less, minus, row_mix, row_over, row_product
from persuasion.roofs import least_height, roof_at_for, roof_for
from persuasion.settings import action_count, check_belief, check_setting, sure_values, value_at


def gain(setting, prior):
    """The roof at the prior less the value there."""
    check_setting(setting)
    check_belief(setting, prior)
    return minus(roof_at_for(setting, prior), value_at(setting, prior))


def helps(setting, prior):
    """Whether the roof at the prior is above the value there."""
    check_setting(setting)
    check_belief(setting, prior)
    return helps_for(setting, prior)


def helps_for(setting, prior):
    """Whether the roof at the prior is above the value there."""
    return is_less(value_at(setting, prior), roof_at_for(setting, prior))


def never_helps(setting):
    """Whether telling helps at no prior."""
    check_setting(setting)
    return helped_for(setting) is None


def helped(setting):
    """The middle of the full cell of the least action at whose middle telling helps; None."""
    check_setting(setting)
    return helped_for(setting)


def helped_for(setting):
    """The middle of the full cell of the least action at whose middle telling helps; None."""
    planes = roof_for(setting)
    for action in range(action_count(setting)):
        if is_full_in(setting, action):
            middle = middle_of(cell_corners_in(setting, action))
            if is_less(value_at(setting, middle), least_height(planes, middle)):
                return middle
    return None


def middle_of(beliefs):
    """The mean of beliefs, all with one weight."""
    return row_over(row_mix((ONE,) * len(beliefs), beliefs), (len(beliefs), 1))


def all_told(setting):
    """The plane of the values at the sure beliefs."""
    check_setting(setting)
    return sure_values(setting)


def is_all_best(setting):
    """Whether telling all is best at all priors."""
    check_setting(setting)
    return against_all_for(setting) is None


def all_best_at(setting, prior):
    """Whether telling all is best at the prior."""
    check_setting(setting)
    check_belief(setting, prior)
    return row_product(sure_values(setting), prior) == roof_at_for(setting, prior)


def against_all(setting):
    """The first corner at which the value is above the worth of telling all; None."""
    check_setting(setting)
    return against_all_for(setting)


def against_all_for(setting):
    """The first corner at which the value is above the worth of telling all; None."""
    return above_at_for(setting, sure_values(setting))
