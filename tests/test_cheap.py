import random
import unittest
from fractions import Fraction

from persuasion import cheap
from persuasion.cheap import barrier, cheap_value, is_transparent, secure
from persuasion.errors import InvalidBelief, InvalidNumber, InvalidSetting, NotTransparent
from samples import (
    COURT, HALF, IDLE, NIL, ONE, PRIOR, THIRD, WRONG_BELIEFS, WRONG_FRACTIONS, WRONG_SETTINGS, GivenCase, anything, at,
    corners_by_equations, grid, is_row_of, is_split_by_sums, number_of, pair, plain_setting, priors_for, put,
    random_settings, row, table, value_at,
)

GREAT = 10 ** 399 + 7


def transparent(seed, many):
    """Transparent settings of all sizes, in turn, some with actions that are worth alike."""
    chance = random.Random(seed)
    out = []
    for pays, _ in random_settings(seed, many):
        numbers_of = [Fraction(chance.randint(-3, 3), chance.randint(1, 2)) for _ in pays]
        out.append((pays, table(*[[number] * len(pays[0]) for number in numbers_of])))
    return out


def levels_of(setting):
    return sorted(set(number_of(told[0]) for told in setting[1]))


def corners_from(setting, level):
    actions = [k for k, told in enumerate(setting[1]) if number_of(told[0]) >= level]
    return [belief for action in actions for belief in corners_by_equations(setting, action)]


class CheapCase(GivenCase):
    def assert_secures(self, setting, prior, level, split):
        self.assertTrue(is_split_by_sums(prior, split))
        self.assertTrue(all(value_at(setting, belief) >= level for _, belief in split))

    def assert_bars(self, setting, prior, level, told):
        self.assertTrue(is_row_of(told, len(prior)))
        for belief in corners_from(setting, level):
            self.assertGreater(at(told, prior), at(told, belief))


class WordsTest(CheapCase):
    def test_just_one(self):
        chance = random.Random(61)
        for setting in transparent(62, 90):
            for prior in priors_for(chance, len(setting[0][0]), 3):
                secured = []
                for level in levels_of(setting):
                    split, bar = secure(setting, prior, pair(level)), barrier(setting, prior, pair(level))
                    if split is None:
                        self.assert_bars(setting, prior, level, bar)
                    else:
                        self.assertIsNone(bar)
                        self.assert_secures(setting, prior, level, split)
                        secured.append(level)
                self.assertEqual(cheap_value(setting, prior), pair(secured[-1]))
                # What secures a level secures each lesser one.
                self.assertEqual(secured, levels_of(setting)[:len(secured)])

    def test_two_states_by_the_line(self):
        for setting in transparent(63, 75):
            if len(setting[0][0]) == 2:
                for prior in grid(2, 7):
                    told = []
                    for level in levels_of(setting):
                        reached = [number_of(belief[0]) for belief in corners_from(setting, level)]
                        if reached and min(reached) <= number_of(prior[0]) <= max(reached):
                            told.append(level)
                    self.assertEqual(cheap_value(setting, prior), pair(max(told)))

    def test_from_the_value_on(self):
        for setting in transparent(64, 60):
            for prior in grid(len(setting[0][0]), 3):
                self.assertGreaterEqual(number_of(cheap_value(setting, prior)), value_at(setting, prior))

    def test_by_name(self):
        self.assertEqual(cheap_value(prior=PRIOR, setting=COURT), NIL)
        self.assertIsNone(secure(level=ONE, prior=PRIOR, setting=COURT))
        self.assertIsNone(barrier(level=NIL, prior=PRIOR, setting=COURT))
        self.assert_bars(COURT, PRIOR, 1, barrier(level=ONE, setting=COURT, prior=PRIOR))
        self.assert_secures(COURT, PRIOR, 0, secure(setting=COURT, prior=PRIOR, level=NIL))


class HandTest(CheapCase):
    def test_the_seller_of_two_things(self):
        # Cheap talk tells which of two is good, and one of them is taken; otherwise none is.
        setting = (table([1, 0], [0, 1], ["3/4", "3/4"]), table([1, 1], [2, 2], [0, 0]))
        middle = (HALF, HALF)
        self.assertEqual([cheap_value(setting, middle), cheap_value(setting, (ONE, NIL))], [ONE, ONE])
        self.assertEqual([value_at(setting, middle), cheap_value(setting, row("1/4", "3/4"))], [0, (2, 1)])
        self.assert_secures(setting, middle, 1, secure(setting, middle, ONE))
        self.assertIsNone(secure(setting, middle, (2, 1)))
        self.assert_bars(setting, middle, 2, barrier(setting, middle, (2, 1)))

    def test_one_action(self):
        for states in (2, 3, 4):
            setting = (table([1] * states), table([7] * states))
            for prior in grid(states, 2):
                self.assertEqual(cheap_value(setting, prior), (7, 1))
                self.assert_secures(setting, prior, 7, secure(setting, prior, (7, 1)))
                self.assertIsNone(barrier(setting, prior, (7, 1)))

    def test_an_action_that_is_never_best(self):
        setting = (table([1, 0], [0, 1], ["1/3", "1/3"]), table([0, 0], [1, 1], [5, 5]))
        for prior in grid(2, 4):
            self.assertIsNone(secure(setting, prior, (5, 1)))
            self.assertTrue(is_row_of(barrier(setting, prior, (5, 1)), 2))
        self.assertEqual(cheap_value(setting, PRIOR), NIL)

    def test_actions_that_pay_or_are_worth_alike(self):
        setting = (table([1, 0, 0], [1, 0, 0], [0, 1, 1]), table([0, 0, 0], [2, 2, 2], [2, 2, 2]))
        for prior in grid(3, 3):
            self.assertEqual(cheap_value(setting, prior), (2, 1))
            self.assert_secures(setting, prior, 2, secure(setting, prior, (2, 1)))
            self.assert_secures(setting, prior, 0, secure(setting, prior, NIL))

    def test_just_at_the_edge(self):
        self.assertEqual(cheap_value(COURT, (HALF, HALF)), ONE)
        over = (pair(Fraction(1, 2) + Fraction(1, GREAT)), pair(Fraction(1, 2) - Fraction(1, GREAT)))
        self.assertEqual(cheap_value(COURT, over), NIL)
        self.assert_bars(COURT, over, 1, barrier(COURT, over, ONE))

    def test_priors_with_chances_of_nothing(self):
        setting = (table([1, 0, 0], [0, 1, 0], [0, 0, 1]), table([0, 0, 0], [1, 1, 1], [1, 1, 1]))
        self.assertEqual(cheap_value(setting, row(0, "1/2", "1/2")), ONE)
        self.assertEqual(cheap_value(setting, row("2/3", "1/3", 0)), NIL)
        self.assert_bars(setting, row("2/3", "1/3", 0), 1, barrier(setting, row("2/3", "1/3", 0), ONE))
        self.assertEqual(cheap_value(setting, row(1, 0, 0)), NIL)

    def test_great_numbers(self):
        setting = (((pair(GREAT), NIL), (NIL, (1, GREAT))), (((1, GREAT),) * 2, ((2, GREAT),) * 2))
        edge = ((1, GREAT * GREAT + 1), (GREAT * GREAT, GREAT * GREAT + 1))
        self.assertEqual(cheap_value(setting, edge), (2, GREAT))
        self.assertEqual(cheap_value(setting, PRIOR), (1, GREAT))
        self.assert_bars(setting, PRIOR, Fraction(2, GREAT), barrier(setting, PRIOR, (2, GREAT)))


class TransparentTest(GivenCase):
    def test_transparent(self):
        for setting in transparent(65, 45):
            self.assertIs(is_transparent(setting), True)
            self.assertIs(is_transparent(setting=setting), True)
            pays, worths = setting
            for action in range(len(pays)):
                for state in range(len(pays[0])):
                    number = pair(number_of(worths[action][state]) + 1)
                    self.assertIs(is_transparent(put(setting, (1, action, state), number)), False)
            for other in (pays, table(*[[5] * len(pays[0])] * len(pays))):
                self.assertIs(is_transparent((other, worths)), True)
        self.assertIs(is_transparent(IDLE), False)
        self.assertIs(is_transparent(plain_setting(4, 5)), True)


class ErrorsTest(GivenCase):
    told = {
        "setting": (InvalidSetting, WRONG_SETTINGS), "prior": (InvalidBelief, list(WRONG_BELIEFS) + anything()),
        "level": (InvalidNumber, anything() + WRONG_FRACTIONS + [(2, 1), HALF, (-1, 1), (0, 5), (ONE,), (NIL, ONE)]),
    }

    def test_errors(self):
        good = {"setting": COURT, "prior": PRIOR}
        self.assert_errors(is_transparent, {"setting": COURT}, self.told)
        self.assert_errors(cheap_value, good, self.told)
        for call in (secure, barrier):
            self.assert_errors(call, {**good, "level": ONE}, self.told)

    def test_levels_of_this_setting_alone(self):
        setting = (COURT[0], table(["1/2", "1/2"], [-3, -3]))
        for call in (secure, barrier):
            for level in (ONE, NIL, THIRD, (3, 1), (-1, 2)):
                self.assert_given(InvalidNumber, level, call, setting, PRIOR, level)
            for level in (HALF, (-3, 1)):
                call(setting, PRIOR, level)

    def test_not_transparent(self):
        told = {"setting": self.told["setting"], "prior": self.told["prior"]}
        self.assertRaises(NotTransparent, cheap_value, IDLE, PRIOR)
        self.assert_errors(cheap_value, {"setting": IDLE, "prior": PRIOR}, told)
        for call in (secure, barrier):
            self.assert_errors(call, {"setting": IDLE, "prior": PRIOR, "level": None}, told)
            for level in [ONE, NIL] + self.told["level"][1]:
                self.assertRaises(NotTransparent, call, IDLE, PRIOR, level)
                self.assertRaises(NotTransparent, call, level=level, setting=IDLE, prior=PRIOR)
        for edge in (put(COURT, (1, 0, 1), (1, GREAT)), put(COURT, (1, 1, 0), (GREAT, GREAT - 1))):
            self.assertRaises(NotTransparent, cheap_value, edge, PRIOR)

    def test_interface(self):
        self.assert_interface(cheap, {
            "is_transparent": "setting", "cheap_value": "setting prior", "secure": "setting prior level",
            "barrier": "setting prior level",
        })


if __name__ == "__main__":
    unittest.main()
