"""Sheets, books and pairs, and an independent reckoning of points 25 to 28, for the tests."""

import random
import string
from fractions import Fraction

from samples import (
    COURT, HALF, LESS, NIL, ONE, PRIOR, WRONG_FRACTIONS, Odd, anything, at, corners_of, is_row_of, is_split_by_sums,
    near_settings, number_of, numbers, pair, random_belief, random_settings, row, value_at,
)

CASE = (("innocent", "guilty"), ("acquit", "convict"), COURT, (("start", PRIOR),))
BARRED = ("states", "action", "prior")
BEST = (((3, 5), (HALF, HALF)), ((2, 5), (ONE, NIL)))
PAIR = (BEST, (NIL, (2, 1)))
TWO = (2, 1)
DEEDS = (
    ("pay", 1, 0, HALF), ("worth", 0, 1, LESS), ("action", (HALF, HALF), (NIL, LESS)), ("strike", 0),
    ("order", (1, 0)), ("states", (1, 0)), ("scale", TWO, (ONE, NIL)), ("lift", HALF, (LESS, NIL)),
)


def random_name(chance, letters="abcz"):
    while True:
        name = "".join(chance.choice(letters) for _ in range(chance.choice([1, 2, 3, 8])))
        if name not in BARRED:
            return name


def names_for(chance, many, taken=()):
    out = []
    while len(out) < many:
        name = random_name(chance)
        if name not in out and name not in taken:
            out.append(name)
    return tuple(out)


def sheet_of(chance, setting, many):
    """A sheet of the setting, with so many priors."""
    states = len(setting[0][0])
    kept = sorted(names_for(chance, many))
    priors = tuple((name, random_belief(chance, states, chance.randint(1, 9))) for name in kept)
    return (names_for(chance, states), names_for(chance, len(setting[0])), setting, priors)


def random_sheets(seed, many, most=8):
    chance = random.Random(seed)
    settings = random_settings(seed, many) if seed % 2 else near_settings(seed, many)
    return [sheet_of(chance, setting, chance.randint(0, most)) for setting in settings]


def word_of(fraction):
    above, below = fraction
    return str(above) if below == 1 else str(above) + "/" + str(below)


def text_by_words(sheet):
    """The text of a sheet, from the words of point 25."""
    states, actions, (pays, worths), priors = sheet
    rows = [["states", *states]]
    for k, name in enumerate(actions):
        rows.append(["action", name] + [word_of(number) for number in pays[k]] + [word_of(x) for x in worths[k]])
    for name, belief in priors:
        rows.append(["prior", name] + [word_of(number) for number in belief])
    return "".join(" ".join(words) + "\n" for words in rows)


def is_pair_by_sums(setting, prior, value):
    """Whether a value is a pair for the prior, from the words of point 26, by all corners."""
    if type(value) is not tuple or len(value) != 2:
        return False
    split, plane = value
    if not is_split_by_sums(prior, split) or not is_row_of(plane, len(prior)):
        return False
    if any(at(plane, corner) < value_at(setting, corner) for corner in corners_of(setting)):
        return False
    return at(plane, prior) == sum(number_of(weight) * value_at(setting, belief) for weight, belief in split)


def times_and(factor, told, added):
    return row(*[number_of(factor) * x + y for x, y in zip(numbers(told), numbers(added))])


def behind_by_words(setting, deed):
    """The setting that a deed makes, from the words of point 26."""
    pays, worths = [[list(told) for told in side] for side in setting]
    word = deed[0]
    if word in ("pay", "worth"):
        (pays if word == "pay" else worths)[deed[1]][deed[2]] = deed[3]
    elif word == "action":
        pays, worths = pays + [deed[1]], worths + [deed[2]]
    elif word == "strike":
        del pays[deed[1]], worths[deed[1]]
    elif word == "order":
        pays, worths = [pays[k] for k in deed[1]], [worths[k] for k in deed[1]]
    elif word == "states":
        pays, worths = [[[told[k] for k in deed[1]] for told in side] for side in (pays, worths)]
    elif word == "scale":
        pays = [times_and(deed[1], told, deed[2]) for told in pays]
    elif word == "lift":
        worths = [times_and(deed[1], told, deed[2]) for told in worths]
    return tuple(tuple(tuple(told) for told in side) for side in (pays, worths))


def led_row_by_words(deed, told):
    return tuple(told[k] for k in deed[1]) if deed[0] == "states" else told


def led_pair_by_words(deed, value):
    split, plane = value
    if deed[0] == "states":
        parts = [(weight, led_row_by_words(deed, belief)) for weight, belief in split]
        return (tuple(sorted(parts, key=lambda part: numbers(part[1]))), led_row_by_words(deed, plane))
    if deed[0] == "lift":
        return (split, times_and(deed[1], plane, deed[2]))
    return value


def random_number(chance):
    return pair(Fraction(chance.randint(-3, 3), chance.randint(1, 3)))


def random_row_of(chance, many):
    return tuple(random_number(chance) for _ in range(many))


def random_order(chance, many):
    return tuple(chance.sample(range(many), many))


def random_deeds(chance, setting):
    """A deed of each kind that fits, in turn."""
    actions, states = len(setting[0]), len(setting[0][0])
    out = [
        (word, chance.randrange(actions), chance.randrange(states), random_number(chance)) for word in ("pay", "worth")
    ]
    if actions < 5:
        out.append(("action", random_row_of(chance, states), random_row_of(chance, states)))
    if actions > 1:
        out.append(("strike", chance.randrange(actions)))
    out.append(("order", random_order(chance, actions)))
    out.append(("states", random_order(chance, states)))
    for word in ("scale", "lift"):
        factor = pair(Fraction(chance.randint(1, 5), chance.randint(1, 5)))
        out.append((word, factor, random_row_of(chance, states)))
    return out


def random_changes(chance, sheet):
    """A change of each kind that fits, in turn."""
    states, actions, setting, priors = sheet
    out = []
    for deed in random_deeds(chance, setting):
        out.append(deed + names_for(chance, 1, actions) if deed[0] == "action" else deed)
    names = [name for name, _ in priors]
    fresh = names_for(chance, 1, names)[0]
    for name in names[:1] + ([fresh] if len(names) < 8 else []):
        out.append(("keep", name, random_belief(chance, len(states), chance.randint(1, 9))))
    if names:
        out.append(("drop", chance.choice(names)))
    return out


def sheet_by_words(sheet, change):
    """The sheet behind a change, from the words of point 28."""
    states, actions, setting, priors = sheet
    word = change[0]
    if word == "keep":
        kept = {**dict(priors), change[1]: change[2]}
        return (states, actions, setting, tuple(sorted(kept.items())))
    if word == "drop":
        return (states, actions, setting, tuple(kept for kept in priors if kept[0] != change[1]))
    deed = change[:3] if word == "action" else change
    if word == "action":
        actions = actions + (change[3],)
    elif word == "strike":
        actions = tuple(name for k, name in enumerate(actions) if k != change[1])
    elif word == "order":
        actions = tuple(actions[k] for k in change[1])
    elif word == "states":
        states = tuple(states[k] for k in change[1])
    priors = tuple((name, led_row_by_words(deed, belief)) for name, belief in priors)
    return (states, actions, behind_by_words(setting, deed), priors)


LETTERS = string.ascii_lowercase
PLAIN = (("a", "b"), ("x",), ((row(1, 1),), (row(0, "-1/2"),)), (("p", (NIL, ONE)), ("q", row("1/2", "1/2"))))


def wrong_deeds():
    """For a setting of 2 states and 2 actions, a deed of each kind with each part broken alone."""
    out = [deed[:k] + deed[k + 1:] for deed in DEEDS for k in range(len(deed))]
    out += [deed + (extra,) for deed in DEEDS for extra in (NIL, "no name", None, deed[-1])]
    out += [list(deed) for deed in DEEDS] + [(deed[0].upper(),) + deed[1:] for deed in DEEDS]
    out += [(thing,) + deed[1:] for deed in DEEDS for thing in ("", "pays", None, Odd(), 0, b"pay", ("pay",), ["pay"])]
    indexes = (2, -1, True, False, None, "0", (0,), NIL, Odd(), 10 ** 500)
    out += [("pay", k, 0, ONE) for k in indexes] + [("worth", 0, k, ONE) for k in indexes]
    out += [("worth", k, 0, ONE) for k in indexes] + [("pay", 0, k, ONE) for k in indexes]
    out += [("strike", k) for k in indexes]
    out += [(word, 0, 1, told) for word in ("pay", "worth") for told in WRONG_FRACTIONS]
    rows = ((ONE,), (ONE, ONE, ONE), [ONE, ONE], (), None, (ONE, (2, 2)), (1, 1), ONE, Odd(), (ONE, Odd()), "ab")
    out += [("action", told, (ONE, ONE)) for told in rows] + [("action", (ONE, ONE), told) for told in rows]
    out += [("scale", ONE, told) for told in rows] + [("lift", ONE, told) for told in rows]
    factors = (NIL, LESS, (-1, 2), (2, 2), 1, None, True, ONE + ONE, [1, 1], Odd())
    out += [(word, factor, (NIL, NIL)) for word in ("scale", "lift") for factor in factors]
    orders = (
        (0,), (0, 0), (1, 1), (0, 1, 1), (0, 1, 2), (1, 2), (-1, 0), [1, 0], (), (True, False), (1, False), (0, True),
        "01", None, (0, None), (NIL, ONE), {0: 1, 1: 0}, Odd(), (0, Odd()), range(2), ((0, 1),),
    )
    out += [(word, told) for word in ("order", "states") for told in orders]
    out += [("strike",), ("strike", 0, 1), ("strike", (0,)), ("drop", "p"), ("undo",), ((),)]
    out += [("order", 0, 1), ("states", 1, 0), ("lift", ONE, NIL, NIL)]
    return out + anything()
