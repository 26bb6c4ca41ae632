"""Games of two receivers: outcomes, information, equilibria and obedience.

The functions whose names end in _for take arguments that were checked ahead.
"""

from persuasion.errors import InvalidAnswers, InvalidBelief, InvalidExperiment, InvalidGame, InvalidOutcome, Unfit
from persuasion.ratios import NIL, ONE, is_row_of_chances, over, row_added, row_difference, row_sum, unit_rows
from persuasion.settings import action_count, check_setting, is_table, state_count
from persuasion.tables import (
    breach_in, has_up_to, is_best_answer, is_game_table, is_kept_in_public, joined, loads_of, rows_of, seen_by,
    sizes_of, table_product, turned,
)

MOST_ACTIONS = 3
MOST_STATES = 3
MOST_SIGNALS = 4


def is_game(value):
    """Whether a value, whatever it is, is a game."""
    if not isinstance(value, tuple) or len(value) != 3:
        return False
    first = value[0]
    if not has_up_to(first, MOST_ACTIONS) or not has_up_to(first[0], MOST_ACTIONS):
        return False
    if not has_up_to(first[0][0], MOST_STATES):
        return False
    return all([is_game_table(table, sizes_of(first)) for table in value])


def check_game(game):
    """InvalidGame for no game."""
    if not is_game(game):
        raise InvalidGame(game)


def check_prior(game, prior):
    """InvalidBelief for no prior of the game."""
    if not is_row_of_chances(prior, sizes_of(game[0])[2]):
        raise InvalidBelief(prior)


def is_outcome(game, prior, value):
    """Whether a value, whatever it is, is an outcome of the prior."""
    check_game(game)
    check_prior(game, prior)
    return is_outcome_for(game, prior, value)


def is_outcome_for(game, prior, value):
    """Whether a value, whatever it is, is an outcome of the prior."""
    if not is_game_table(value, sizes_of(game[0])):
        return False
    rows = rows_of(value)
    if not all([number[0] >= 0 for row in rows for number in row]):
        return False
    return all([row_sum(column) == chance for column, chance in zip(turned(rows), prior)])


def check_outcome(game, prior, outcome):
    """The errors of all three."""
    check_game(game)
    check_prior(game, prior)
    if not is_outcome_for(game, prior, outcome):
        raise InvalidOutcome(outcome)


def worth_of_outcome(game, prior, outcome):
    """The sum of the outcome's numbers times the worths."""
    check_outcome(game, prior, outcome)
    return table_product(outcome, game[2])


def is_obedient(game, prior, outcome):
    """Whether no receiver who is advised an action gains by another one."""
    check_outcome(game, prior, outcome)
    return breach_for(game, outcome) is None


def breach(game, prior, outcome):
    """The least triple (RECEIVER, ADVISED, OTHER) by which the outcome is not obedient; None."""
    check_outcome(game, prior, outcome)
    return breach_for(game, outcome)


def breach_for(game, outcome):
    """The least triple (RECEIVER, ADVISED, OTHER) by which the outcome is not obedient; None."""
    for receiver in (0, 1):
        found = breach_in(seen_by(receiver, game[receiver]), seen_by(receiver, outcome))
        if found is not None:
            return (receiver, *found)
    return None


def is_publicly_obedient(game, prior, outcome):
    """Whether no receiver gains by another action where both see what both are advised."""
    check_outcome(game, prior, outcome)
    return is_publicly_obedient_for(game, outcome)


def is_publicly_obedient_for(game, outcome):
    """Whether no receiver gains by another action where both see what both are advised."""
    return all([is_kept_in_public(seen_by(k, game[k]), seen_by(k, outcome)) for k in (0, 1)])


def check_play(game, prior, information, answers):
    """The errors of all four."""
    check_game(game)
    check_prior(game, prior)
    if not is_information_for(game, information):
        raise InvalidExperiment(information)
    if not are_answers_for(game, information, answers):
        raise InvalidAnswers(answers)


def is_information_for(game, value):
    """Whether a value, whatever it is, is information on the game's states."""
    if not isinstance(value, tuple) or len(value) != sizes_of(game[0])[2]:
        return False
    if not has_up_to(value[0], MOST_SIGNALS) or not has_up_to(value[0][0], MOST_SIGNALS):
        return False
    return all([is_table_of_chances(table, len(value[0]), len(value[0][0])) for table in value])


def is_table_of_chances(value, many, wide):
    """Whether a value is so many rows of so many fractions from 0 on, all together of the sum 1."""
    if not is_table(value, many, wide):
        return False
    return is_row_of_chances(tuple([chance for row in value for chance in row]), many * wide)


def are_answers_for(game, information, value):
    """Whether a value, whatever it is, is answers to the information's signals."""
    if not isinstance(value, tuple) or len(value) != 2:
        return False
    first, second, _ = sizes_of(game[0])
    table = information[0]
    return are_mixes(value[0], len(table), first) and are_mixes(value[1], len(table[0]), second)


def are_mixes(value, many, actions):
    """Whether a value, whatever it is, is a tuple of so many mixes of so many actions."""
    if not isinstance(value, tuple) or len(value) != many:
        return False
    return all([is_row_of_chances(mix, actions) for mix in value])


def outcome_of(game, prior, information, answers):
    """The outcome that the answers to the information make."""
    check_play(game, prior, information, answers)
    first, second = answers
    loads = loads_of(prior, information, second)
    return tuple([joined(loads, shares) for shares in turned(first)])


def is_equilibrium(game, prior, information, answers):
    """Whether no receiver gains by another action at any signal."""
    check_play(game, prior, information, answers)
    first, second = answers
    if not is_best_answer(game[0], loads_of(prior, information, second), first):
        return False
    loads = loads_of(prior, [turned(table) for table in information], first)
    return is_best_answer(seen_by(1, game[1]), loads, second)


def advice(game, prior, outcome):
    """The pair (INFORMATION, ANSWERS) by which each is told their action and does it."""
    check_outcome(game, prior, outcome)
    if breach_for(game, outcome) is not None:
        raise Unfit(outcome)
    first, second, states = sizes_of(outcome)
    information = tuple([advised_in(prior, outcome, state) for state in range(states)])
    return (information, (tuple(unit_rows(first)), tuple(unit_rows(second))))


def advised_in(prior, outcome, state):
    """How likely, in the state, each pair of actions is advised; both are told 0 if the prior is 0."""
    chance = prior[state]
    if chance == NIL:
        first, second, _ = sizes_of(outcome)
        return tuple([tuple([ONE if (a, b) == (0, 0) else NIL for b in range(second)]) for a in range(first)])
    return tuple([tuple([over(row[state], chance) for row in rows]) for rows in outcome])


def as_game(setting):
    """The setting as a game, whose second receiver has one action."""
    check_setting(setting)
    if action_count(setting) > MOST_ACTIONS or state_count(setting) > MOST_STATES:
        raise Unfit(setting)
    pays, worths = setting
    idle = (NIL,) * state_count(setting)
    return (tuple([(row,) for row in pays]), ((idle,),) * len(pays), tuple([(row,) for row in worths]))


def apart(game):
    """A pair of settings of the receivers, alone, whose worths add up to the game's; None."""
    check_game(game)
    states = sizes_of(game[0])[2]
    if states == 1:
        raise Unfit(states)
    first, second, worths = game[0], seen_by(1, game[1]), game[2]
    if not hang_on_first_alone(first) or not hang_on_first_alone(second):
        return None
    # Who is first is worth what it is beside the other one's action 0, the other one what is left.
    ahead = tuple([rows[0] for rows in worths])
    behind = tuple([row_difference(row, ahead[0]) for row in worths[0]])
    for own, rows in zip(ahead, worths):
        for other, row in zip(behind, rows):
            if row != row_added(own, other):
                return None
    return ((tuple([rows[0] for rows in first]), ahead), (tuple([rows[0] for rows in second]), behind))


def hang_on_first_alone(pays):
    """Whether pays, own actions first, are alike for all actions of the other one."""
    return all([row == rows[0] for rows in pays for row in rows])
