"""Claims with papers that this package made, and ways to bend them, for the tests."""

import random
from fractions import Fraction

from claim_samples import KINDS
from game_samples import games_for, random_outcome, random_table_of, sizes_of
from persuasion import certificates
from samples import (
    Odd, near_settings, pair, priors_for, put, random_settings, random_split, row, with_worths,
)
from sheet_samples import random_deeds, random_row_of, random_sheets, text_by_words


def of_settings(seed, many):
    chance, out = random.Random(seed), []
    for setting in random_settings(seed, many) + near_settings(seed + 1, many):
        states = len(setting[0][0])
        level = (setting[0], tuple(told[:1] * states for told in setting[1]))
        for prior in priors_for(chance, states, 1):
            out.append(certificates.certify_cheap(level, prior))
            for call in (certificates.certify_roof, certificates.certify_helps, certificates.certify_choice):
                out.append(call(setting, prior))
            for deed in random_deeds(chance, setting):
                out.append(certificates.certify_roofs(setting, deed, prior))
        prior, split = random_split(chance, states, chance.randint(1, 4))
        out.append(certificates.certify_split(setting, prior, split))
        for deed in random_deeds(chance, setting) + [("strike", 7), "order", ("pay", 0, 0, (2, 2)), None]:
            out.append(certificates.certify_change(setting, deed))
        for told in (setting, with_worths(setting, "friend"), with_worths(setting, "foe")):
            for call in (certificates.certify_disclosed, certificates.certify_never, certificates.certify_all_told):
                out.append(call(told))
        for plane in (random_row_of(chance, states), row(*[5] * states)):
            out.append(certificates.certify_above(setting, plane))
    return out


def of_games(seed, rounds=1):
    chance, out = random.Random(seed), []
    for game, prior in games_for(seed, rounds):
        sizes = sizes_of(game[0])
        out.append(certificates.certify_private(game, prior))
        out.append(certificates.certify_public(game, prior))
        out.append(certificates.certify_obedient(game, prior, random_outcome(chance, sizes, prior)))
        aims = tuple(
            (random_table_of(chance, sizes), pair(Fraction(chance.randint(-3, 3), 2)))
            for _ in range(chance.randint(0, 4))
        )
        out.append(certificates.certify_bring(game, prior, aims))
    return out


def of_texts(seed, many):
    chance, out = random.Random(seed), []
    for sheet in random_sheets(seed, many):
        text = text_by_words(sheet)
        out.append(certificates.certify_read(text))
        out.append(certificates.certify_read(text[:chance.randrange(len(text))]))
    return out


def paths_of(value, ahead=()):
    """The places of all parts of a value, its own first."""
    out = [ahead]
    if type(value) is tuple:
        for k, part in enumerate(value):
            out.extend(paths_of(part, ahead + (k,)))
    return out


def part_at(value, path):
    for k in path:
        value = value[k]
    return value


def is_fraction(value):
    return type(value) is tuple and [type(part) for part in value] == [int, int] and value[1] > 0


def near_number(chance, value):
    """A fraction beside another one."""
    number = Fraction(*value)
    step = Fraction(1, 1000)
    others = [number + step, number - step, number + 1, number - 1, -number, number / 2, 1 - number, 0, 1]
    return pair(chance.choice(others))


def bent_part(chance, value):
    """Something else in the place of a part."""
    if type(value) is int:
        return chance.choice([value + 1, value - 1, -value, 0, 1, 2, True, False, None, str(value), (value,), 10 ** 60])
    if type(value) is str:
        word = chance.choice(list(KINDS))
        return chance.choice([value + " ", "", value[:-1], word, "above", "under", "gains", "beaten", 0, None, b"x"])
    if type(value) is not tuple:
        return (value,)
    k = chance.randrange(len(value) + 1)
    return chance.choice([
        list(value), value[:-1], value + value[:1], value[::-1], value[:k] + value[k + 1:], value[k:] + value[:k], (),
        None, Odd(), True, 0, "x", [], {}, (value,), value[:k] + (None,) + value[k + 1:],
    ])


def bent(chance, both):
    """A claim and a paper with a part of them, at any depth, bent."""
    places = paths_of(both)
    if chance.random() < 0.5:
        found = [path for path in places if is_fraction(part_at(both, path))]
        if found:
            path = chance.choice(found)
            return put(both, path, near_number(chance, part_at(both, path)))
    path = chance.choice(places[1:])
    return put(both, path, bent_part(chance, part_at(both, path)))
