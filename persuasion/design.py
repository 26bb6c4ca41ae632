"""What information can bring about in a game: best outcomes, prices that bar better ones, and wishes.

The functions whose names end in _for take arguments that were checked ahead.
"""

from persuasion.cells import beliefs_at_bounds
from persuasion.games import check_game, check_prior
from persuasion.prices import are_prices_from, are_public_prices_from, leads_at, nil_table
from persuasion.programs import bar_to, best_weights, weights_to
from persuasion.ratios import (
    NIL, ascending, opposite, row_added, row_difference, row_product, row_times, unit_row, unit_rows, whole_row,
)
from persuasion.tables import rows_of, seen_by, sizes_of
from persuasion.wishes import check_wishes


def best_private(game, prior):
    """The greatest worth of obedient outcomes, any such outcome, and prices with multipliers that come to it."""
    check_game(game)
    check_prior(game, prior)
    return best_private_for(game, prior)


def best_private_for(game, prior):
    """The greatest worth of obedient outcomes, any such outcome, and prices with multipliers that come to it."""
    duties = duties_of(game)
    many, states = len(duties), len(prior)
    worths = (NIL,) * many + numbers_of(game[2])
    weights, prices = best_weights(points_of(game, duties, ()), prior + (NIL,) * many, worths)
    told = multipliers_by(game, duties, prices[states:])
    return (row_product(weights, worths), outcome_by(game, weights[many:]), prices[:states], told)


def duties_of(game):
    """All triples (RECEIVER, ADVISED, OTHER) of two unlike actions of a receiver."""
    sizes, out = sizes_of(game[0]), []
    for receiver in (0, 1):
        actions = range(sizes[receiver])
        out.extend([(receiver, advised, other) for advised in actions for other in actions if other != advised])
    return out


def points_of(game, duties, wishes):
    """The points that outcomes weigh: one for each duty and wish, then one for each a, b and s.

    They add up to the prior, to 0 for each duty and to the NUMBER of each
    wish with its sign changed. What breaking a duty gains and a wish's table
    with its signs changed are up to that; the first points fill what is left.
    """
    states, spare = sizes_of(game[0])[2], len(duties) + len(wishes)
    columns = [gains_of(game, duty) for duty in duties] + [opposite(numbers_of(table)) for table, _ in wishes]
    out = [(NIL,) * states + row for row in unit_rows(spare)]
    for k in range(len(numbers_of(game[2]))):
        out.append(unit_row(k % states, states) + tuple([column[k] for column in columns]))
    return out


def gains_of(game, duty):
    """What the other action pays more than the advised one, for each a, b and s; 0 where that one is not advised."""
    receiver, advised, other = duty
    pays = seen_by(receiver, game[receiver])
    still = seen_by(receiver, nil_table(game))
    more = tuple([row_difference(there, here) for there, here in zip(pays[other], pays[advised])])
    return numbers_of(seen_by(receiver, still[:advised] + (more,) + still[advised + 1:]))


def numbers_of(table):
    """All numbers of a table, one behind the other."""
    return tuple([number for row in rows_of(table) for number in row])


def outcome_by(game, numbers):
    """The table of these numbers, which stand one behind the other."""
    _, second, states = sizes_of(game[0])
    rows = [numbers[k:k + states] for k in range(0, len(numbers), states)]
    return tuple([tuple(rows[k:k + second]) for k in range(0, len(rows), second)])


def multipliers_by(game, duties, numbers):
    """The multipliers that have a number for each duty, otherwise 0."""
    told, out, sizes = dict(zip(duties, numbers)), [], sizes_of(game[0])
    for receiver in (0, 1):
        actions = range(sizes[receiver])
        rows = [[told.get((receiver, advised, other), NIL) for other in actions] for advised in actions]
        out.append(tuple([tuple(row) for row in rows]))
    return tuple(out)


def bring(game, prior, wishes):
    """("brought", any obedient outcome that keeps the wishes), or ("barred", what shows that none does)."""
    check_game(game)
    check_prior(game, prior)
    check_wishes(game, wishes)
    return bring_for(game, prior, wishes)


def bring_for(game, prior, wishes):
    """("brought", any obedient outcome that keeps the wishes), or ("barred", what shows that none does)."""
    duties = duties_of(game)
    points = points_of(game, duties, wishes)
    target = prior + (NIL,) * len(duties) + opposite([number for _, number in wishes])
    weights = weights_to(points, target)
    if weights is not None:
        return ("brought", outcome_by(game, weights[len(duties) + len(wishes):]))
    bar, states = opposite(bar_to(points, target)), len(prior)
    told = multipliers_by(game, duties, bar[states:states + len(duties)])
    return ("barred", (bar[states + len(duties):], bar[:states], told))


def best_public(game, prior):
    """The greatest worth of publicly obedient outcomes, any such one, and public prices that come to it; None."""
    check_game(game)
    check_prior(game, prior)
    return best_public_for(game, prior)


def best_public_for(game, prior):
    """The greatest worth of publicly obedient outcomes, any such one, and public prices that come to it; None."""
    places = corners_of_profiles(game)
    worths = tuple([row_product(game[2][a][b], corner) for a, b, corner in places])
    found = best_weights([corner for _, _, corner in places], prior, worths)
    if found is None:
        return None
    weights, prices = found
    told = public_multipliers_for(game, game[2], prices)
    return (row_product(weights, worths), public_outcome(game, places, weights), prices, told)


def corners_of_profiles(game):
    """All (a, b, CORNER), CORNER a corner of the beliefs at which a and b are an equilibrium."""
    first, second, _ = sizes_of(game[0])
    return [(a, b, corner) for a in range(first) for b in range(second) for corner in corners_of_profile(game, a, b)]


def corners_of_profile(game, a, b):
    """The ascending tuple of the corners of the beliefs at which a and b are an equilibrium."""
    states = sizes_of(game[0])[2]
    own, others = leads_at(game, a, b)
    bounds = [whole_row(row) for row in unit_rows(states) + own + others]
    # A row of zeros bounds nothing; each profile has two, its own leads before itself.
    return ascending(beliefs_at_bounds([bound for bound in bounds if any(bound)], states - 1))


def public_outcome(game, places, weights):
    """The outcome of the weights of the corners, each answered by its profile."""
    first, second, states = sizes_of(game[0])
    rows = {(a, b): (NIL,) * states for a in range(first) for b in range(second)}
    for (a, b, corner), weight in zip(places, weights):
        rows[(a, b)] = row_added(rows[(a, b)], row_times(corner, weight))
    return tuple([tuple([rows[(a, b)] for b in range(second)]) for a in range(first)])


def public_multipliers_for(game, table, prices):
    """Public multipliers of prices from the table's numbers on at all corners of each profile's beliefs."""
    first, second, _ = sizes_of(game[0])
    told = [[multipliers_at(game, table, prices, a, b) for b in range(second)] for a in range(first)]
    return tuple([tuple([tuple([rows[k] for rows in parts]) for parts in told]) for k in (0, 1)])


def multipliers_at(game, table, prices, a, b):
    """The pair of both receivers' rows of public multipliers at a and b."""
    first, second, states = sizes_of(game[0])
    own, others = leads_at(game, a, b)
    # By unit rows the prices may be more than what is asked.
    weights = weights_to(own + others + unit_rows(states), row_difference(prices, table[a][b]))
    return (weights[:first], weights[first:first + second])


def public_bar(game, prior):
    """Any prices and public multipliers that show that no outcome is publicly obedient; None."""
    check_game(game)
    check_prior(game, prior)
    return public_bar_for(game, prior)


def public_bar_for(game, prior):
    """Any prices and public multipliers that show that no outcome is publicly obedient; None."""
    bar = bar_to([corner for _, _, corner in corners_of_profiles(game)], prior)
    if bar is None:
        return None
    prices = opposite(bar)
    return (prices, public_multipliers_for(game, nil_table(game), prices))


def are_prices(game, prices, multipliers):
    """Whether values, whatever they are, are prices above with multipliers."""
    check_game(game)
    return are_prices_from(game, game[2], prices, multipliers)


def are_public_prices(game, prices, multipliers):
    """Whether values, whatever they are, are prices above with public multipliers."""
    check_game(game)
    return are_public_prices_from(game, game[2], prices, multipliers)
