"""What can be proven: sceptical answers to lots of states, and reasons against them.

An action gains in a state if it is worth more there than the state's sure
answer. The functions whose names end in _for take arguments that were
checked ahead, and the row of what the sure answers are worth in their states.
"""

from itertools import combinations

from persuasion.cells import cell_corners_in
from persuasion.errors import InvalidLot
from persuasion.programs import weights_to
from persuasion.ratios import NIL, ONE, is_index, is_less, opposite, row_difference, row_over, row_sum, unit_rows
from persuasion.settings import action_count, check_setting, choice_at, state_count, sure_values


def sure_answers(setting):
    """The tuple of the choices at the sure beliefs."""
    check_setting(setting)
    return tuple([choice_at(setting, belief) for belief in unit_rows(state_count(setting))])


def sceptical(setting, lot):
    """Any sceptical answer to the lot; None."""
    check_setting(setting)
    check_lot(setting, lot)
    return sceptical_for(setting, lot, sure_values(setting), cells_of(setting))


def sceptical_for(setting, lot, sures, cells):
    """Any sceptical answer to the lot, by the corners of all cells; None."""
    for action, cell in enumerate(cells):
        if gainer_for(setting, lot, sures, action) is None:
            # The cell's beliefs that are 0 outside of the lot are means of such corners.
            beliefs = [belief for belief in cell if is_nil_outside(belief, lot)]
            if beliefs:
                return (action, beliefs[0])
    return None


def cells_of(setting):
    """The corners of the cell of each action."""
    return [cell_corners_in(setting, action) for action in range(action_count(setting))]


def is_nil_outside(belief, lot):
    """Whether a belief is 0 outside of the lot."""
    return all([number == NIL for state, number in enumerate(belief) if state not in lot])


def gainer_for(setting, lot, sures, action):
    """The first state of the lot in which the action gains; None."""
    for state in lot:
        if is_less(sures[state], setting[1][action][state]):
            return state
    return None


def reasons(setting, lot):
    """Any reasons against the lot; None."""
    check_setting(setting)
    check_lot(setting, lot)
    return reasons_for(setting, lot, sure_values(setting))


def reasons_for(setting, lot, sures):
    """Any reasons against the lot; None."""
    out = []
    for action in range(action_count(setting)):
        state = gainer_for(setting, lot, sures, action)
        if state is not None:
            out.append(("gains", state))
        else:
            mix = beating_mix(setting, lot, action)
            if mix is None:
                return None
            out.append(("beaten", mix))
    return tuple(out)


def beating_mix(setting, lot, action):
    """Any mix of actions that pays more than the action in each state of the lot; None."""
    pays = setting[0]
    here = [pays[action][state] for state in lot]
    points = [row_difference([row[state] for state in lot], here) for row in pays]
    # Many times a mix that pays more pays 1 more, or, by the opposite unit rows, still more.
    points = points + [opposite(row) for row in unit_rows(len(lot))]
    weights = weights_to(points, (ONE,) * len(lot))
    if weights is None:
        return None
    shares = weights[:len(pays)]
    return row_over(shares, row_sum(shares))


def is_disclosed(setting):
    """Whether each lot has a sceptical answer."""
    check_setting(setting)
    return first_without(setting) is None


def first_without(setting):
    """The first lot, of all in ascending order, without a sceptical answer; None."""
    sures, cells = sure_values(setting), cells_of(setting)
    for lot in lots_of(state_count(setting)):
        if sceptical_for(setting, lot, sures, cells) is None:
            return lot
    return None


def lots_of(states):
    """All lots of so many states, ascending."""
    return sorted([lot for many in range(1, states + 1) for lot in combinations(range(states), many)])


def check_lot(setting, lot):
    """InvalidLot for no ascending tuple of one state or more."""
    if not isinstance(lot, tuple) or lot == ():
        raise InvalidLot(None)
    for k, state in enumerate(lot):
        if not is_index(state, state_count(setting)) or (k > 0 and state <= lot[k - 1]):
            raise InvalidLot(k)
