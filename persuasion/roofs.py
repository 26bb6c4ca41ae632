"""The roof of a setting: best splits, least planes, and the planes that it is made of.

The functions whose names end in _for take arguments that were checked ahead.
"""

from itertools import combinations

from persuasion.cells import cell_corners_in, corners_in
from persuasion.errors import InvalidSetting
from persuasion.experiments import split_at, split_by
from persuasion.programs import best_weights, weights_to
from persuasion.rays import narrowed
from persuasion.ratios import (
    NIL, ONE, ascending, greatest, least, lowest, minus, opposite, row_mix, row_over, row_product, row_sum, unit_rows,
    whole_row,
)
from persuasion.settings import (
    action_count, check_belief, check_setting, is_setting, state_count, sure_values, value_at,
)


def roof_at(setting, prior):
    """The greatest worth that any split of the prior has."""
    check_setting(setting)
    check_belief(setting, prior)
    return roof_at_for(setting, prior)


def roof_at_for(setting, prior):
    """The greatest worth that any split of the prior has."""
    return row_product(least_plane_for(setting, prior), prior)


def peaks_of(setting):
    """The pair of the setting's corners, ascending, and the values there."""
    found = corners_in(setting)
    return (found, [value_at(setting, corner) for corner in found])


def met_for(setting, prior):
    """The pair of a best split into corners and a least plane, which meet at the prior."""
    found, values = peaks_of(setting)
    weights, plane = best_weights(found, prior, values)
    return (split_at(found, weights), plane)


def best_split(setting, prior):
    """Any best split of the prior into at most as many corners as there are states."""
    check_setting(setting)
    check_belief(setting, prior)
    return met_for(setting, prior)[0]


def least_plane(setting, prior):
    """Any plane above that is least at the prior."""
    check_setting(setting)
    check_belief(setting, prior)
    return least_plane_for(setting, prior)


def least_plane_for(setting, prior):
    """Any plane above that is least at the prior."""
    return met_for(setting, prior)[1]


def roof(setting):
    """The ascending tuple of the roof's planes."""
    check_setting(setting)
    return roof_for(setting)


def roof_for(setting):
    """The ascending tuple of the roof's planes."""
    # A plane P is told by P and 1, times a whole number; a way in which planes go on for ever by it and 0.
    rays = first_rays(sure_values(setting))
    found, values = peaks_of(setting)
    for k, (corner, number) in enumerate(zip(found, values)):
        rays = narrowed(rays, whole_row(corner + opposite((number,))), 2 << (state_count(setting) + k))
    rows = [row for row, _ in rays if row[-1] > 0]
    return ascending([tuple([lowest(number, row[-1]) for number in row[:-1]]) for row in rows])


def first_rays(plane):
    """The rays of the planes from a plane on at each state, and of the wish that the last number is from 0 on."""
    states = len(plane)
    every = (2 << states) - 1
    rays = [(whole_row(plane + (ONE,)), every - (1 << states))]
    for state, row in enumerate(unit_rows(states)):
        rays.append((whole_row(row + (NIL,)), every - (1 << state)))
    return rays


def lead(setting, other):
    """The pair of the greatest number of the roof less the other one's, and the first own corner that has it."""
    check_setting(setting)
    check_other(setting, other)
    found, values = peaks_of(setting)
    planes = roof_for(other)
    leads = [minus(number, least_height(planes, corner)) for corner, number in zip(found, values)]
    most = greatest(leads)
    return (most, found[leads.index(most)])


def least_height(planes, prior):
    """The least height at the prior of planes: the roof, if they are the roof's."""
    return least([row_product(plane, prior) for plane in planes])


def check_other(setting, other):
    """InvalidSetting for no setting of as many states."""
    if not is_setting(other) or state_count(other) != state_count(setting):
        raise InvalidSetting(other)


def fewest(setting, prior):
    """The least number of beliefs that any best split of the prior has."""
    check_setting(setting)
    check_belief(setting, prior)
    return len(short_split_for(setting, prior))


def short_split(setting, prior):
    """Any best split of the prior into as few beliefs as can be."""
    check_setting(setting)
    check_belief(setting, prior)
    return short_split_for(setting, prior)


def short_split_for(setting, prior):
    """Any best split of the prior into as few beliefs as can be."""
    faces = faces_on(setting, least_plane_for(setting, prior))
    # Beliefs on one face may be put together, so one for each face is enough; with all faces a split is found.
    # Where fewer faces were not enough, each one has a weight, and their beliefs are unlike.
    for many in range(1, len(faces) + 1):
        for chosen in combinations(faces, many):
            split = split_over(chosen, prior)
            if split is not None:
                return split
    return None


def faces_on(setting, plane):
    """For each action the corners of its cell at which its worth has the plane's height."""
    out = []
    for action in range(action_count(setting)):
        worths = setting[1][action]
        cell = cell_corners_in(setting, action)
        out.append([corner for corner in cell if row_product(worths, corner) == row_product(plane, corner)])
    return out


def split_over(faces, prior):
    """A split of the prior into a belief for each of the faces, if all of them are needed; None."""
    weights = weights_to([corner for face in faces for corner in face], prior)
    if weights is None:
        return None
    told, at = {}, 0
    for face in faces:
        shares = weights[at:at + len(face)]
        at += len(face)
        total = row_sum(shares)
        told[row_over(row_mix(shares, face), total)] = total
    return split_by(told)


def pays_within(setting, prior):
    """The pair of the least and the greatest pay of the receiver in best splits of the prior."""
    check_setting(setting)
    check_belief(setting, prior)
    faces = faces_on(setting, least_plane_for(setting, prior))
    found = ascending([corner for face in faces for corner in face])
    pays = tuple([greatest([row_product(row, corner) for row in setting[0]]) for corner in found])
    high = best_weights(found, prior, pays)[0]
    low = best_weights(found, prior, opposite(pays))[0]
    return (row_product(low, pays), row_product(high, pays))
