"""Settings, wrong values and an independent reckoning, for the tests."""

import inspect
import random
import unittest
from fractions import Fraction
from functools import lru_cache
from itertools import combinations

NIL, ONE, HALF, THIRD, LESS = (0, 1), (1, 1), (1, 2), (1, 3), (-1, 1)
COURT = (((ONE, NIL), (NIL, ONE)), ((NIL, NIL), (ONE, ONE)))
IDLE = (((ONE, NIL), (NIL, ONE), (THIRD, THIRD)), ((NIL, NIL), (ONE, ONE), (NIL, ONE)))
PRIOR = ((7, 10), (3, 10))


def nested(kind, depth):
    """A value of so many tuples or lists, one in the other."""
    out = kind()
    for _ in range(depth - 1):
        out = kind([out])
    return out


class Odd:
    """An object that does not let itself be compared, measured or tested."""

    def __eq__(self, other):
        raise AssertionError("compared")

    def __len__(self):
        raise AssertionError("measured")

    def __bool__(self):
        raise AssertionError("tested")

    def __iter__(self):
        raise AssertionError("iterated")


def anything():
    """Values that are no setting, belief, fraction or index."""
    return [
        None, True, False, "", "ab", "0", b"", b"ab", (), (()), ((),), ((), ()), [], [[], []], {}, {0: 1, 1: 0},
        set(), frozenset([0]), range(2), object(), Odd(), len, int, Odd, -1, -10 ** 500, 10 ** 500, 1j,
        Fraction(1, 2), (None, None), (Odd(), Odd()), ((Odd(),), (Odd(),)), ("ab", "ab"), (True, False),
        nested(tuple, 60), nested(list, 60), (nested(tuple, 59), nested(tuple, 59)), (0,) * 1000,
        ((ONE,) * 1000,) * 2,
    ]


WRONG_FRACTIONS = [
    (2, 2), (0, 2), (0, 7), (6, 4), (-4, 2), (1, 0), (0, 0), (1, -1), (-1, -1), (0, -1), (-1, -2),
    (10 ** 400, 10), (True, 1), (False, 1), (1, True), (True, True), (0, True), (1,), (1, 1, 1), (), [1, 1], [0, 1],
    1, 0, None, True, "11", "1/2", b"11", (1, "1"), ("1", 1), (1, None), ((1, 1), 1), ((1, 1), (1, 1)), (1, (1,)),
    {1: 1, 2: 2}, Fraction(1, 2), (Fraction(1), 1), (1, Fraction(1)), (1j, 1), Odd(), (Odd(), 1), (1, Odd()),
    nested(tuple, 50), nested(list, 50),
]


class GivenCase(unittest.TestCase):
    def assert_given(self, kind, given, call, *args, **named):
        with self.assertRaises(kind) as caught:
            call(*args, **named)
        self.assertIs(caught.exception.__class__, kind)
        self.assertIs(caught.exception.given, given)

    def assert_told(self, kind, word, told, call, *args, **named):
        """Whether an error of just this kind is raised, whose attribute is what is told, of the same class."""
        with self.assertRaises(kind) as caught:
            call(*args, **named)
        self.assertIs(caught.exception.__class__, kind)
        attribute = getattr(caught.exception, word)
        self.assertEqual((type(attribute), attribute), (type(told), told))

    def assert_errors(self, call, good, told):
        """Good arguments by name, each one wrong in all told ways, by position and by name, alone and with others."""
        words = list(good)
        for k, word in enumerate(words):
            kind, wrongs = told.get(word, (None, ()))
            for wrong in wrongs:
                given = {**good, word: wrong}
                self.assert_given(kind, wrong, call, *given.values())
                self.assert_given(kind, wrong, call, **given)
            for other in words[k + 1:] if wrongs else []:
                given = {**good, other: None, word: wrongs[0]}
                self.assert_given(kind, wrongs[0], call, *given.values())
                self.assert_given(kind, wrongs[0], call, **dict(reversed(given.items())))

    def assert_interface(self, module, told):
        """Whether a module itself defines the told functions, with the told parameters."""
        for name, words in told.items():
            call = getattr(module, name)
            self.assertEqual(call.__module__, module.__name__)
            self.assertEqual(list(inspect.signature(call).parameters), words.split())


def put(table, path, part):
    """A tuple of tuples with another part at the place that the path tells."""
    if not path:
        return part
    k = path[0]
    return table[:k] + (put(table[k], path[1:], part),) + table[k + 1:]


def as_lists(value):
    return [as_lists(part) for part in value] if isinstance(value, tuple) else value


def pair(number):
    number = Fraction(number)
    return (number.numerator, number.denominator)


def row(*numbers):
    return tuple(pair(number) for number in numbers)


def table(*rows):
    return tuple(row(*numbers) for numbers in rows)


def number_of(fraction):
    return Fraction(fraction[0], fraction[1])


def numbers(fractions):
    return [number_of(fraction) for fraction in fractions]


def random_table(chance, actions, states, most=3, below=3):
    return tuple(
        tuple(pair(Fraction(chance.randint(-most, most), chance.randint(1, below))) for _ in range(states))
        for _ in range(actions)
    )


def random_settings(seed, many):
    """Small settings of all sizes, in turn, with ties among them."""
    chance = random.Random(seed)
    out = []
    for k in range(many):
        states, actions = 2 + k % 3, 1 + (k // 3) % 5
        most, below = chance.choice([(1, 1), (2, 1), (3, 3), (9, 7)])
        pays = random_table(chance, actions, states, most, below)
        if actions > 1 and chance.random() < 0.25:
            pays = pays[:-1] + pays[:1]
        out.append((pays, random_table(chance, actions, states, most, below)))
    return out


def grid(states, parts):
    """All beliefs whose numbers are so manieth parts."""
    def lead(left, places):
        if places == 1:
            return [[left]]
        return [[k] + rest for k in range(left + 1) for rest in lead(left - k, places - 1)]
    return [row(*[Fraction(k, parts) for k in belief]) for belief in lead(parts, states)]


def at(fractions, belief):
    """The number of a row at a belief."""
    return sum(x * y for x, y in zip(numbers(fractions), numbers(belief)))


def only_answer(equations):
    """The only answer of n equations of n numbers, each with its right side last; None."""
    left = [list(equation) for equation in equations]
    many = len(left)
    for k in range(many):
        swap = [j for j in range(k, many) if left[j][k] != 0]
        if not swap:
            return None
        left[k], left[swap[0]] = left[swap[0]], left[k]
        left[k] = [number / left[k][k] for number in left[k]]
        for j in range(many):
            if j != k:
                left[j] = [x - left[j][k] * y for x, y in zip(left[j], left[k])]
    return [equation[-1] for equation in left]


@lru_cache(maxsize=None)
def corners_by_equations(setting, action):
    """The corners of a cell, worked out from the words of point 8."""
    pays = [numbers(fractions) for fractions in setting[0]]
    states = len(pays[0])
    lets = [[Fraction(int(k == s)) for k in range(states)] + [Fraction(0)] for s in range(states)]
    for other in range(len(pays)):
        if other != action:
            lets.append([x - y for x, y in zip(pays[action], pays[other])] + [Fraction(0)])
    found = set()
    for chosen in combinations(lets, states - 1):
        answer = only_answer([[Fraction(1)] * (states + 1)] + list(chosen))
        if answer is not None and all(sum(x * y for x, y in zip(let, answer)) >= 0 for let in lets):
            found.add(tuple(answer))
    return tuple(row(*belief) for belief in sorted(found))


def rank(rows):
    """How many of the rows are independent."""
    left = [numbers(fractions) for fractions in rows]
    many = 0
    for k in range(len(left[0]) if left else 0):
        lead = [j for j in range(many, len(left)) if left[j][k] != 0]
        if lead:
            left[many], left[lead[0]] = left[lead[0]], left[many]
            for j in range(many + 1, len(left)):
                share = left[j][k] / left[many][k]
                left[j] = [x - share * y for x, y in zip(left[j], left[many])]
            many += 1
    return many


def value_at(setting, belief):
    """The value at a belief, worked out from the words of point 7."""
    paid = [at(told, belief) for told in setting[0]]
    return max(at(setting[1][k], belief) for k in range(len(paid)) if paid[k] == max(paid))


def is_best(setting, action, belief):
    """Whether an action is best at a belief, worked out from the words of point 7."""
    paid = [at(told, belief) for told in setting[0]]
    return paid[action] == max(paid)


def is_row_of(value, many):
    """Whether a value is a tuple of so many pairs in lowest terms, told in whole numbers."""
    return type(value) is tuple and len(value) == many and all(
        type(x) is tuple and [type(part) for part in x] == [int, int] and x[1] > 0 and pair(number_of(x)) == x
        for x in value
    )


def is_chances(value, many):
    """Whether a value is a row of so many chances that add up to 1."""
    return is_row_of(value, many) and min(numbers(value)) >= 0 and sum(numbers(value)) == 1


def is_split_by_sums(prior, split):
    """Whether a value is a split of a prior, worked out from the words of point 9."""
    states = len(prior)
    if type(split) is not tuple or not all(type(part) is tuple and len(part) == 2 for part in split):
        return False
    if not all(is_row_of((weight,), 1) and is_chances(belief, states) for weight, belief in split):
        return False
    weights, beliefs = [number_of(weight) for weight, _ in split], [numbers(belief) for _, belief in split]
    return (
        sum(weights) == 1 and min(weights) > 0 and all(x < y for x, y in zip(beliefs, beliefs[1:]))
        and [sum(w * b[s] for w, b in zip(weights, beliefs)) for s in range(states)] == numbers(prior)
    )


def random_belief(chance, states, parts=12):
    """A belief of few parts, often with chances of 0."""
    left = [0] * states
    for _ in range(parts):
        left[chance.choice([chance.randrange(states), 0, states - 1])] += 1
    return row(*[Fraction(k, parts) for k in left])


def priors_for(chance, states, many):
    """A sure prior, the middle, and so many others."""
    sure = row(*[int(k == states - 1) for k in range(states)])
    middle = row(*[Fraction(1, states)] * states)
    return [sure, middle] + [random_belief(chance, states, chance.randint(1, 12)) for _ in range(many)]


def random_split(chance, states, many):
    """A prior and a split of it into so many beliefs."""
    beliefs = set()
    while len(beliefs) < many:
        beliefs.add(random_belief(chance, states, chance.randint(3, 16)))
    beliefs = sorted(beliefs, key=numbers)
    shares = [chance.randint(1, 9) for _ in beliefs]
    weights = [Fraction(share, sum(shares)) for share in shares]
    prior = row(*[sum(w * numbers(b)[s] for w, b in zip(weights, beliefs)) for s in range(states)])
    return prior, tuple((pair(w), b) for w, b in zip(weights, beliefs))


def plain_setting(states, actions=1):
    """A setting of so many states, for what does not hang on its numbers."""
    return (((ONE,) * states,) * actions, ((NIL,) * states,) * actions)


WRONG_BELIEFS = (
    (ONE, ONE), (ONE,), (ONE, NIL, NIL), ((2, 1), LESS), [ONE, NIL], ((2, 2), NIL), ((True, 1), NIL), None, 0, "",
    (1, 0), (THIRD, THIRD), nested(tuple, 60), nested(list, 60),
)
WRONG_SETTINGS = anything() + [
    as_lists(COURT), (COURT[0], COURT[1][:1]), plain_setting(2, 6), plain_setting(5), COURT + COURT,
]


def corners_of(setting):
    """The corners of all cells, ascending, worked out from the words of point 8."""
    every = [belief for k in range(len(setting[0])) for belief in corners_by_equations(setting, k)]
    return sorted(set(every), key=numbers)


@lru_cache(maxsize=None)
def planes_by_search(setting):
    """The roof's planes, by a search of all lots of as many corners as there are states, from the words of point 14."""
    peaks = [numbers(belief) + [value_at(setting, belief)] for belief in corners_of(setting)]
    found = set()
    for chosen in combinations(peaks, len(setting[0][0])):
        plane = only_answer(chosen)
        if plane is not None and all(sum(x * y for x, y in zip(plane, peak)) >= peak[-1] for peak in peaks):
            found.add(tuple(plane))
    return tuple(row(*plane) for plane in sorted(found))


def roof_by_search(setting, belief):
    """The least height of the roof's planes at a belief."""
    return min(at(plane, belief) for plane in planes_by_search(setting))


def near_settings(seed, many):
    """Settings in which each action is best just where the belief is near to its own place, so that cells are full."""
    chance = random.Random(seed)
    out = []
    for k in range(many):
        states, actions = 2 + k % 3, 1 + (k // 3) % 5
        places = [numbers(random_belief(chance, states, 6)) for _ in range(actions)]
        pays = table(*[[2 * x - sum(y * y for y in place) for x in place] for place in places])
        out.append((pays, random_table(chance, actions, states)))
    return out


def with_worths(setting, kind):
    """The setting with worths that are the pays ("friend"), or these with all signs changed ("foe")."""
    sign = 1 if kind == "friend" else -1
    return (setting[0], tuple(row(*[sign * x for x in numbers(told)]) for told in setting[0]))


def swapped(setting, order):
    """The setting with its actions in another order."""
    return tuple(tuple(side[k] for k in order) for side in setting)
