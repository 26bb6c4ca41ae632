"""Planes: heights, whether they are above a setting, and multipliers that show it.

The functions whose names end in _for take arguments that were checked ahead.
"""

from persuasion.cells import corners_in
from persuasion.errors import InvalidPlane
from persuasion.programs import weights_to
from persuasion.ratios import is_less, is_row, minus, plus, row_difference, row_product, unit_rows
from persuasion.settings import action_count, check_belief, check_setting, is_table, state_count, value_at


def height(setting, plane, prior):
    """The plane's height at the prior."""
    check_setting(setting)
    check_plane(setting, plane)
    check_belief(setting, prior)
    return row_product(plane, prior)


def is_above(setting, plane):
    """Whether the plane's height is from the value on at all beliefs."""
    check_setting(setting)
    check_plane(setting, plane)
    return above_at_for(setting, plane) is None


def above_at(setting, plane):
    """The first corner at which the value is above the plane's height; None."""
    check_setting(setting)
    check_plane(setting, plane)
    return above_at_for(setting, plane)


def above_at_for(setting, plane):
    """The first corner at which the value is above the plane's height; None."""
    for corner in corners_in(setting):
        if is_less(row_product(plane, corner), value_at(setting, corner)):
            return corner
    return None


def multipliers(setting, plane):
    """Any multipliers of the plane; None for one that is not above."""
    check_setting(setting)
    check_plane(setting, plane)
    return multipliers_for(setting, plane)


def multipliers_for(setting, plane):
    """Any multipliers of the plane; None for one that is not above."""
    rows = [multiplier_row(setting, plane, action) for action in range(action_count(setting))]
    return None if None in rows else tuple(rows)


def multiplier_row(setting, plane, action):
    """A row of multipliers by which the plane is from the action's worths on; None."""
    pays, worths = setting
    points = [row_difference(pays[action], row) for row in pays]
    # By unit rows the plane may have more than what is asked.
    weights = weights_to(points + unit_rows(state_count(setting)), row_difference(plane, worths[action]))
    return None if weights is None else weights[:len(pays)]


def are_multipliers(setting, plane, value):
    """Whether a value, whatever it is, is multipliers of the plane."""
    check_setting(setting)
    check_plane(setting, plane)
    return are_multipliers_for(setting, plane, value)


def are_multipliers_for(setting, plane, value):
    """Whether a value, whatever it is, is multipliers of the plane."""
    actions = action_count(setting)
    if not is_table(value, actions, actions):
        return False
    return all([is_multiplier_row(setting, plane, action, row) for action, row in enumerate(value)])


def is_multiplier_row(setting, plane, action, row):
    """Whether fractions are from 0 on and ask, for the action, no more than the plane."""
    if not all([number[0] >= 0 for number in row]):
        return False
    asked = asked_by(setting, action, row)
    return not any([is_less(number, least) for number, least in zip(plane, asked)])


def asked_by(setting, action, row):
    """The action's worths and, by the row, what it pays more than the others."""
    pays, worths = setting
    out = []
    for state, number in enumerate(worths[action]):
        more = [minus(pays[action][state], other[state]) for other in pays]
        out.append(plus(number, row_product(row, more)))
    return out


def check_plane(setting, plane):
    """InvalidPlane for no row of a fraction for each state."""
    if not is_row(plane, state_count(setting)):
        raise InvalidPlane(plane)
