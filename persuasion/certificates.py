"""Claims that are so, each with a paper that the checker accepts for it."""

from persuasion.cheap import barrier_for, check_talk, cheap_value_for, levels_of, secure_for
from persuasion.deeds import behind_for, check_deed, fits_for, led_belief, led_number
from persuasion.design import best_private_for, best_public_for, bring_for, public_bar_for
from persuasion.disclosure import cells_of, first_without, lots_of, reasons_for, sceptical_for
from persuasion.experiments import check_split, split_worth_for
from persuasion.games import breach_for, check_game, check_outcome, check_prior
from persuasion.planes import above_at_for, check_plane, multipliers_for
from persuasion.programs import weights_to
from persuasion.ratios import NIL, ONE, is_less, opposite, row_difference, row_product, unit_rows
from persuasion.roofs import met_for
from persuasion.settings import check_belief, check_setting, choice_at, state_count, sure_values, value_at
from persuasion.sheets import check_text, read_for
from persuasion.telling import against_all_for, helped_for
from persuasion.wishes import check_wishes


def certify_split(setting, prior, split):
    """The claim of the split's worth, and its paper."""
    check_setting(setting)
    check_belief(setting, prior)
    check_split(prior, split)
    return (("split", setting, prior, split, split_worth_for(setting, split)), ())


def certify_cheap(setting, prior):
    """The claim of the greatest level that some split secures, and its paper."""
    check_talk(setting, prior)
    level = cheap_value_for(setting, prior)
    greater = [other for other in levels_of(setting) if is_less(level, other)]
    barriers = tuple([barrier_for(setting, prior, other) for other in greater])
    return (("cheap", setting, prior, level), (secure_for(setting, prior, level), barriers))


def certify_disclosed(setting):
    """The claim that each lot has a sceptical answer, or that some lot has none, and its paper."""
    check_setting(setting)
    sures, cells = sure_values(setting), cells_of(setting)
    lot = first_without(setting)
    if lot is not None:
        return (("not disclosed", setting), (lot, reasons_for(setting, lot, sures)))
    lots = lots_of(state_count(setting))
    return (("disclosed", setting), tuple([sceptical_for(setting, each, sures, cells) for each in lots]))


def certify_roof(setting, prior):
    """The claim of the roof at the prior, and its paper."""
    check_setting(setting)
    check_belief(setting, prior)
    split, plane = met_for(setting, prior)
    number = row_product(plane, prior)
    return (("roof at", setting, prior, number), (split, plane, multipliers_for(setting, plane)))


def certify_above(setting, plane):
    """The claim that the plane is above, or that it is not, and its paper."""
    check_setting(setting)
    check_plane(setting, plane)
    belief = above_at_for(setting, plane)
    if belief is not None:
        return (("not above", setting, plane), belief)
    return (("above", setting, plane), multipliers_for(setting, plane))


def certify_helps(setting, prior):
    """The claim that telling helps at the prior, or that it does not, and its paper."""
    check_setting(setting)
    check_belief(setting, prior)
    return help_claim(setting, prior)


def help_claim(setting, prior):
    """The claim that telling helps at the prior, or that it does not, and its paper."""
    split, plane = met_for(setting, prior)
    if is_less(value_at(setting, prior), row_product(plane, prior)):
        return (("helps at", setting, prior), split)
    return (("does not help at", setting, prior), (plane, multipliers_for(setting, plane)))


def certify_never(setting):
    """The claim that telling never helps, or that it helps at a prior, and its paper."""
    check_setting(setting)
    prior = helped_for(setting)
    if prior is not None:
        return help_claim(setting, prior)
    rows = [multipliers_for(setting, worths) for worths in setting[1]]
    above = [action for action, told in enumerate(rows) if told is not None]
    paper = []
    for action, told in enumerate(rows):
        paper.append(("under", mix_over(setting, above, action)) if told is None else ("above", told))
    return (("never helps", setting), tuple(paper))


def mix_over(setting, actions, action):
    """A mix of some of the actions that pays, in each state, no less than the action."""
    pays, states = setting[0], state_count(setting)
    points = [(ONE,) + row_difference(pays[other], pays[action]) for other in actions]
    # By opposite unit rows the mix may pay more.
    points = points + [(NIL,) + opposite(row) for row in unit_rows(states)]
    shares = dict(zip(actions, weights_to(points, (ONE,) + (NIL,) * states)))
    return tuple([shares.get(other, NIL) for other in range(len(pays))])


def certify_all_told(setting):
    """The claim that telling all is best at all priors, or that it is not, and its paper."""
    check_setting(setting)
    belief = against_all_for(setting)
    if belief is not None:
        return (("not all told best", setting), belief)
    return (("all told best", setting), multipliers_for(setting, sure_values(setting)))


def certify_obedient(game, prior, outcome):
    """The claim that the outcome is obedient, or that it is not, and its paper."""
    check_outcome(game, prior, outcome)
    triple = breach_for(game, outcome)
    if triple is not None:
        return (("not obedient", game, prior, outcome), triple)
    return (("obedient", game, prior, outcome), ())


def certify_private(game, prior):
    """The claim of the greatest worth of obedient outcomes, and its paper."""
    check_game(game)
    check_prior(game, prior)
    found = best_private_for(game, prior)
    return (("best private", game, prior, found[0]), found[1:])


def certify_public(game, prior):
    """The claim of the greatest worth of publicly obedient outcomes, or that there is none, and its paper."""
    check_game(game)
    check_prior(game, prior)
    found = best_public_for(game, prior)
    if found is None:
        return (("no public", game, prior), public_bar_for(game, prior))
    return (("best public", game, prior, found[0]), found[1:])


def certify_bring(game, prior, wishes):
    """The claim that an obedient outcome keeps the wishes, or that none does, and its paper."""
    check_game(game)
    check_prior(game, prior)
    check_wishes(game, wishes)
    word, paper = bring_for(game, prior, wishes)
    return (("can be brought" if word == "brought" else "cannot be brought", game, prior, wishes), paper)


def certify_choice(setting, belief):
    """The claim of the choice at the belief, and its paper."""
    check_setting(setting)
    check_belief(setting, belief)
    return (("choice", setting, belief, choice_at(setting, belief)), ())


def certify_change(setting, value):
    """The claim of what a deed makes, or that the value is no deed that fits, and its paper."""
    check_setting(setting)
    if not fits_for(setting, value):
        return (("no change", setting, value), ())
    return (("change", setting, value, behind_for(setting, value)), ())


def certify_roofs(setting, deed, prior):
    """The claim that the deed leaves the roof at the prior, or that it makes another one, and its paper."""
    check_setting(setting)
    check_deed(setting, deed)
    check_belief(setting, prior)
    led, other = led_belief(deed, prior), behind_for(setting, deed)
    pair, mate = met_for(setting, prior), met_for(other, led)
    is_same = led_number(deed, prior, row_product(pair[1], prior)) == row_product(mate[1], led)
    return (("same roof" if is_same else "other roof", setting, deed, prior), (pair, mate))


def certify_read(text):
    """The claim of the sheet whose text this is, or of the line at which it is wrong, and its paper."""
    check_text(text)
    sheet, line = read_for(text)
    return (("not read", text, line), ()) if sheet is None else (("read", text, sheet), ())
