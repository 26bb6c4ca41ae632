"""Cells, the sets of beliefs at which an action is best, and their corners.

The functions whose names end in _in take arguments that were checked ahead.
"""

from itertools import combinations

from persuasion.linear import has_base, right_angle
from persuasion.ratios import ascending, lowest, row_difference, whole_row
from persuasion.settings import action_count, check_action, check_setting, state_count


def cell_corners(setting, action):
    """The ascending tuple of the corners of the action's cell."""
    check_setting(setting)
    check_action(setting, action)
    return cell_corners_in(setting, action)


def is_full(setting, action):
    """Whether the action's cell has as many corners as states of a determinant other than 0."""
    check_setting(setting)
    check_action(setting, action)
    return is_full_in(setting, action)


def corners(setting):
    """The ascending tuple of the corners of all cells."""
    check_setting(setting)
    return corners_in(setting)


def never_best(setting):
    """The ascending tuple of the actions without a cell."""
    check_setting(setting)
    actions = range(action_count(setting))
    return tuple([action for action in actions if cell_corners_in(setting, action) == ()])


def cell_corners_in(setting, action):
    """The ascending tuple of the corners of the action's cell."""
    bounds = bounds_of(setting, action)
    return ascending(beliefs_at_bounds(bounds, state_count(setting) - 1))


def is_full_in(setting, action):
    """Whether the corners of the action's cell have a determinant other than 0."""
    rows = [whole_row(corner) for corner in cell_corners_in(setting, action)]
    return has_base(rows, state_count(setting))


def corners_in(setting):
    """The ascending tuple of the corners of all cells."""
    return corners_of(setting, list(range(action_count(setting))))


def corners_of(setting, actions):
    """The ascending tuple of the corners of the cells of these actions."""
    return ascending([corner for action in actions for corner in cell_corners_in(setting, action)])


def bounds_of(setting, action):
    """The whole rows whose products with a belief are from 0 on just in the action's cell."""
    pays, states = setting[0], state_count(setting)
    bounds = [[1 if k == state else 0 for k in range(states)] for state in range(states)]
    for other, row in enumerate(pays):
        if other != action:
            bounds.append(whole_row(row_difference(pays[action], row)))
    return bounds


def beliefs_at_bounds(bounds, many):
    """The beliefs within all bounds that are the only ones at some bounds, as many as told."""
    found = []
    for chosen in combinations(bounds, many):
        row = right_angle(chosen, many + 1)
        total = sum(row)
        # The equations have one answer of the sum 1 only if this is not 0.
        if total != 0:
            scaled = [number if total > 0 else -number for number in row]
            if all([is_within(bound, scaled) for bound in bounds]):
                found.append(tuple([lowest(number, abs(total)) for number in scaled]))
    return found


def is_within(bound, row):
    """Whether the product of a bound and a row is from 0 on."""
    return sum([factor * number for factor, number in zip(bound, row)]) >= 0
