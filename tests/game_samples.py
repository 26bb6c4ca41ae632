"""Games, outcomes and an independent reckoning of points 19 to 23, for the tests."""

import random
from fractions import Fraction
from itertools import product

from persuasion.programs import best_weights
from samples import NIL, ONE, is_row_of, number_of, numbers, row

LESS, TWO, HALF, THIRD, MORE = (-1, 1), (2, 1), (1, 2), (1, 3), (2, 3)
OUT, EAGER, WARY = (NIL, NIL), (ONE, LESS), (ONE, (-2, 1))
CALLS = (((OUT, OUT), (EAGER, EAGER)), ((OUT, WARY), (OUT, WARY)), ((OUT, (ONE, ONE)), ((ONE, ONE), (TWO, TWO))))
CALLS_PRIOR = (THIRD, MORE)
BEYOND = (((NIL, THIRD), OUT), (OUT, (THIRD, THIRD)))
KEPT = (((NIL, HALF), OUT), (OUT, (THIRD, (1, 6))))
SIX, DEUCE, SEVEN, NONE = ((6, 1),), ((2, 1),), ((7, 1),), (NIL,)
DARE = (((SIX, DEUCE), (SEVEN, NONE)), ((SIX, SEVEN), (DEUCE, NONE)), ((((12, 1),), ((9, 1),)), (((9, 1),), NONE)))
WIN, LOSE = (ONE,), (LESS,)
PENNIES = (((WIN, LOSE), (LOSE, WIN)), ((LOSE, WIN), (WIN, LOSE)), ((NONE, NONE), (NONE, NONE)))
BOTH = ((WIN, NONE), (NONE, NONE))
ALL_SIZES = list(product((1, 2, 3), repeat=3))


def table_by(sizes, tell):
    """A table of these sizes, with what is told for each a, b, s."""
    first, second, states = sizes
    return tuple(tuple(row(*[tell(a, b, s) for s in range(states)]) for b in range(second)) for a in range(first))


def sizes_of(table):
    return (len(table), len(table[0]), len(table[0][0]))


def places(sizes):
    return list(product(*[range(many) for many in sizes]))


def of(table, place):
    a, b, s = place
    return number_of(table[a][b][s])


def random_table_of(chance, sizes, most=3, below=2):
    return table_by(sizes, lambda a, b, s: Fraction(chance.randint(-most, most), chance.randint(1, below)))


def random_game(chance, sizes, most=3, below=2):
    return tuple(random_table_of(chance, sizes, most, below) for _ in range(3))


def random_chances(chance, many):
    shares = [chance.choice([0, 1, 1, 2, 3]) for _ in range(many)]
    shares[chance.randrange(many)] += 1
    return row(*[Fraction(share, sum(shares)) for share in shares])


def random_outcome(chance, sizes, prior):
    """An outcome of the prior, in each state by any chances."""
    first, second, states = sizes
    told = [random_chances(chance, first * second) for _ in range(states)]
    return table_by(sizes, lambda a, b, s: number_of(prior[s]) * number_of(told[s][a * second + b]))


def disobedience(game, outcome):
    """What is gained by each triple (RECEIVER, ADVISED, OTHER), worked out from the words of point 20."""
    sizes, out = sizes_of(outcome), {}
    for receiver in (0, 1):
        for advised, other in product(range(sizes[receiver]), repeat=2):
            total = Fraction(0)
            for place in places(sizes):
                if place[receiver] == advised:
                    there = place[:receiver] + (other,) + place[receiver + 1:]
                    total += of(outcome, place) * (of(game[receiver], place) - of(game[receiver], there))
            out[receiver, advised, other] = total
    return out


def breach_by_sums(game, outcome):
    wrong = [triple for triple, number in disobedience(game, outcome).items() if number < 0]
    return min(wrong) if wrong else None


def is_public_by_sums(game, outcome):
    """Whether an outcome is publicly obedient, worked out from the words of point 22."""
    first, second, states = sizes_of(outcome)
    for a, b in product(range(first), range(second)):
        others = [(0, other, b) for other in range(first)] + [(1, a, other) for other in range(second)]
        for receiver, c, d in others:
            pays = game[receiver]
            if sum(of(outcome, (a, b, s)) * (of(pays, (a, b, s)) - of(pays, (c, d, s))) for s in range(states)) < 0:
                return False
    return True


def obedience_row(game, sizes, place, public):
    """The gains of a number of an outcome, for each lot that has to be from 0 on."""
    a, b, s = place
    out = []
    for receiver in (0, 1):
        for advised, other, seen in product(range(sizes[receiver]), range(sizes[receiver]), range(sizes[1 - receiver])):
            if not public and seen > 0:
                continue
            there = place[:receiver] + (other,) + place[receiver + 1:]
            told = advised == place[receiver] and (not public or seen == place[1 - receiver])
            out.append(of(game[receiver], place) - of(game[receiver], there) if told else 0)
    return out


def obedient_outcome(game, prior, aims, public=False):
    """An obedient outcome that has as much as can be of a table of aims, often just so; None."""
    sizes = sizes_of(game[0])
    states = sizes[2]
    points = []
    for place in places(sizes):
        points.append(row(*[int(s == place[2]) for s in range(states)], *obedience_row(game, sizes, place, public)))
    many = len(points[0]) - states
    spare = [row(*[0] * states, *[-int(j == k) for j in range(many)]) for k in range(many)]
    worths = tuple(aims[a][b][s] for a, b, s in places(sizes)) + (NIL,) * many
    told = best_weights(points + spare, prior + (NIL,) * many, worths)
    if told is None:
        return None
    by = dict(zip(places(sizes), told[0]))
    return table_by(sizes, lambda a, b, s: number_of(by[a, b, s]))


def pull_by_sums(game, multipliers, place, public):
    """The pull of a, b, s, worked out from the words of points 21 and 22."""
    total = Fraction(0)
    for receiver in (0, 1):
        told = multipliers[receiver]
        own = told[place[0]][place[1]] if public else told[place[receiver]]
        for other, number in enumerate(own):
            there = place[:receiver] + (other,) + place[receiver + 1:]
            total += number_of(number) * (of(game[receiver], place) - of(game[receiver], there))
    return total


def has_form_of_multipliers(game, multipliers, public):
    """Whether multipliers have as many numbers as told, in lowest terms, from 0 on."""
    sizes = sizes_of(game[0])
    if type(multipliers) is not tuple or len(multipliers) != 2:
        return False
    for receiver in (0, 1):
        told, rows = multipliers[receiver], multipliers[receiver]
        if public:
            if type(told) is not tuple or [type(part) for part in told] != [tuple] * sizes[0]:
                return False
            if [len(part) for part in told] != [sizes[1]] * sizes[0]:
                return False
            rows = [own for part in told for own in part]
        elif type(told) is not tuple or len(told) != sizes[receiver]:
            return False
        if not all(is_row_of(own, sizes[receiver]) and min(numbers(own)) >= 0 for own in rows):
            return False
    return True


def are_prices_by_sums(game, told, prices, multipliers, public=False):
    """Whether prices are at least what a function tells of each a, b, s and the pull, and the multipliers are such."""
    sizes = sizes_of(game[0])
    if not is_row_of(prices, sizes[2]) or not has_form_of_multipliers(game, multipliers, public):
        return False
    return all(
        number_of(prices[place[2]]) >= told(place) + pull_by_sums(game, multipliers, place, public)
        for place in places(sizes)
    )


def are_prices_above_by_sums(game, prices, multipliers, public=False):
    return are_prices_by_sums(game, lambda place: of(game[2], place), prices, multipliers, public)


def weighed(wishes, weights, place):
    return sum(number_of(weight) * of(told, place) for weight, (told, _) in zip(weights, wishes))


def sum_of(outcome, told):
    """The sum of an outcome's numbers times a table."""
    return sum(of(outcome, place) * of(told, place) for place in places(sizes_of(outcome)))


def is_outcome_by_sums(game, prior, outcome):
    """Whether a value is an outcome of the prior, in whole numbers in lowest terms."""
    sizes = sizes_of(game[0])
    if type(outcome) is not tuple or [type(part) for part in outcome] != [tuple] * sizes[0]:
        return False
    if [len(part) for part in outcome] != [sizes[1]] * sizes[0]:
        return False
    if not all(is_row_of(told, sizes[2]) and min(numbers(told)) >= 0 for part in outcome for told in part):
        return False
    totals = [sum(of(outcome, place) for place in places(sizes) if place[2] == s) for s in range(sizes[2])]
    return totals == numbers(prior)


def moved_a_bit(chance, outcome, step=Fraction(1, 10 ** 9)):
    """The outcome with a bit of one number moved to another one of its state."""
    full = [place for place in places(sizes_of(outcome)) if of(outcome, place) > step]
    a, b, s = chance.choice(full)
    c, d = chance.randrange(len(outcome)), chance.randrange(len(outcome[0]))
    moves = {(a, b, s): -step}
    moves[c, d, s] = moves.get((c, d, s), 0) + step
    return table_by(sizes_of(outcome), lambda *place: of(outcome, place) + moves.get(place, 0))


def made_by(prior, information, answers, sizes):
    """The outcome that answers make, worked out from the words of point 20."""
    first, second = answers

    def told(a, b, s):
        return number_of(prior[s]) * sum(
            number_of(information[s][i][j]) * number_of(first[i][a]) * number_of(second[j][b])
            for i in range(len(first)) for j in range(len(second))
        )
    return table_by(sizes, told)


def is_equilibrium_by_sums(game, prior, information, answers):
    """Whether answers are an equilibrium, worked out from the words of point 20."""
    sizes, signals = sizes_of(game[0]), [len(mixes) for mixes in answers]
    for receiver in (0, 1):
        for signal, action in product(range(signals[receiver]), range(sizes[receiver])):
            own, total = numbers(answers[receiver][signal]), Fraction(0)
            for s, seen, other in product(range(sizes[2]), range(signals[1 - receiver]), range(sizes[1 - receiver])):
                i, j = (signal, seen) if receiver == 0 else (seen, signal)
                share = number_of(prior[s]) * number_of(information[s][i][j])
                share *= number_of(answers[1 - receiver][seen][other])

                def paid(act):
                    return of(game[receiver], (act, other, s) if receiver == 0 else (other, act, s))
                total += share * (sum(own[act] * paid(act) for act in range(sizes[receiver])) - paid(action))
            if total < 0:
                return False
    return True


def random_information(chance, states, many, wide):
    """Information with so many signals for both receivers."""
    out = []
    for _ in range(states):
        told = random_chances(chance, many * wide)
        out.append(tuple(told[k * wide:(k + 1) * wide] for k in range(many)))
    return tuple(out)


def random_answers(chance, sizes, signals):
    return tuple(
        tuple(random_chances(chance, sizes[k]) for _ in range(signals[k])) for k in (0, 1)
    )


def pure(action, actions):
    return row(*[int(k == action) for k in range(actions)])


def games_for(seed, rounds=1, most=3, below=2):
    """A game of each size, with a prior each; every third prior has a state of chance 0, if there are several."""
    chance = random.Random(seed)
    out = []
    for k, sizes in enumerate(ALL_SIZES * rounds):
        prior = random_chances(chance, sizes[2])
        if k % 3 == 0 and sizes[2] > 1:
            prior = random_chances(chance, sizes[2] - 1) + (NIL,)
        out.append((random_game(chance, sizes, most, below), prior))
    return out


def hunts(chance, sizes):
    """A game in which the second receiver gains just what the first one loses."""
    pays = random_table_of(chance, sizes, 4, 3)
    return (pays, table_by(sizes, lambda *place: -of(pays, place)), random_table_of(chance, sizes))


def odd_games(seed):
    """Games with actions that pay alike, with nothing to gain, of one receiver's hunt, with a prior each."""
    chance, out = random.Random(seed), []
    for sizes in ALL_SIZES:
        prior = random_chances(chance, sizes[2])
        still = table_by(sizes, lambda a, b, s: 0)
        alike = random_game(chance, sizes)
        alike = tuple(told[:-1] + told[:1] for told in alike) if sizes[0] > 1 else alike
        for game in (hunts(chance, sizes), alike, (still, still, alike[2]), (alike[0], alike[1], still)):
            out.append((game, prior))
        out.append((random_game(chance, sizes, 1, 1), prior))
    return out
