"""Cheap talk in transparent settings: the levels that splits secure, and barriers.

The functions whose names end in _for take arguments that were checked ahead.
"""

from persuasion.cells import corners_of
from persuasion.errors import InvalidNumber, NotTransparent
from persuasion.experiments import split_at
from persuasion.programs import bar_to, weights_to
from persuasion.ratios import ascending, is_fraction, is_less
from persuasion.settings import check_belief, check_setting


def is_transparent(setting):
    """Whether each action is worth the same in all states."""
    check_setting(setting)
    return is_transparent_for(setting)


def is_transparent_for(setting):
    """Whether each action is worth the same in all states."""
    return all([number == row[0] for row in setting[1] for number in row])


def cheap_value(setting, prior):
    """The greatest level that some split of the prior secures."""
    check_talk(setting, prior)
    return cheap_value_for(setting, prior)


def cheap_value_for(setting, prior):
    """The greatest level that some split of the prior secures."""
    levels = levels_of(setting)
    # The least level is secured by each split.
    return [level for level in levels if secure_for(setting, prior, level) is not None][-1]


def secure(setting, prior, level):
    """Any split of the prior that secures the level; None."""
    check_talk(setting, prior)
    check_level(setting, level)
    return secure_for(setting, prior, level)


def secure_for(setting, prior, level):
    """Any split of the prior that secures the level; None."""
    points = corners_from(setting, level)
    weights = weights_to(points, prior)
    return None if weights is None else split_at(points, weights)


def barrier(setting, prior, level):
    """Any barrier between the prior and the level; None."""
    check_talk(setting, prior)
    check_level(setting, level)
    return barrier_for(setting, prior, level)


def barrier_for(setting, prior, level):
    """Any barrier between the prior and the level; None."""
    return bar_to(corners_from(setting, level), prior)


def corners_from(setting, level):
    """The ascending tuple of the corners of the cells of actions with worths from the level on."""
    worths = setting[1]
    return corners_of(setting, [action for action, row in enumerate(worths) if not is_less(row[0], level)])


def levels_of(setting):
    """The levels of a transparent setting, ascending."""
    return [row[0] for row in ascending([row[:1] for row in setting[1]])]


def check_talk(setting, prior):
    """The errors of both, last NotTransparent for a setting that is not transparent."""
    check_setting(setting)
    check_belief(setting, prior)
    if not is_transparent_for(setting):
        raise NotTransparent()


def check_level(setting, level):
    """InvalidNumber for no level of a transparent setting."""
    if not is_fraction(level) or level not in levels_of(setting):
        raise InvalidNumber(level)
