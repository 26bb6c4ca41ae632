import inspect
import random
import unittest

from persuasion import settings
from persuasion.errors import InvalidAction, InvalidBelief, InvalidSetting, InvalidState
from persuasion.settings import best_actions, choice, is_belief, is_setting, pay, sure, value, worth
from samples import (
    COURT, HALF, IDLE, NIL, ONE, PRIOR, THIRD, WRONG_BELIEFS, WRONG_FRACTIONS, WRONG_SETTINGS, GivenCase, anything,
    as_lists, at, grid, nested, number_of, numbers, pair, plain_setting, put, random_settings, row, table,
)

GREAT = 10 ** 399 + 7


class IsSettingTest(unittest.TestCase):
    def test_all_sizes(self):
        for actions in range(0, 8):
            for states in range(0, 7):
                told = is_setting(plain_setting(states, actions))
                self.assertIs(told, 1 <= actions <= 5 and 2 <= states <= 4, (actions, states))

    def test_settings(self):
        for setting in [COURT, IDLE] + random_settings(1, 60):
            self.assertIs(is_setting(setting), True)
            self.assertIs(is_setting(value=setting), True)
        self.assertIs(is_setting((((pair(GREAT), (1, GREAT)),), (((-GREAT, 3), (GREAT, GREAT + 1)),))), True)

    def test_wrong_fractions_everywhere(self):
        for wrong in WRONG_FRACTIONS:
            for side in (0, 1):
                for action in range(3):
                    for state in range(2):
                        self.assertIs(is_setting(put(IDLE, (side, action, state), wrong)), False)

    def test_wrong_rows(self):
        rows = (
            (), (ONE,), (ONE, ONE, ONE), [ONE, ONE], None, 1, True, "ab", {0: ONE, 1: ONE}, (ONE, None), ONE,
            range(2), nested(tuple, 50), nested(list, 50), (1, 1),
        )
        for wrong in rows:
            for side in (0, 1):
                for action in range(2):
                    self.assertIs(is_setting(put(COURT, (side, action), wrong)), False)

    def test_tables_of_other_sizes(self):
        pays, worths = COURT
        for wrong in (
            (pays, worths[:1]), (pays[:1], worths), (pays, ()), ((), worths), ((), ()), (pays,), (pays, worths, pays),
            (pays, worths + worths[:1]), (pays, table([0, 0, 0], [1, 1, 1])), (table([0, 0, 0], [1, 1, 1]), worths),
            (pays, (worths[0], (ONE, ONE, ONE))), ((pays[0], (ONE, ONE, ONE)), worths),
        ):
            self.assertIs(is_setting(wrong), False)

    def test_lists_for_tuples(self):
        pays, worths = COURT
        for wrong in (
            [pays, worths], (list(pays), worths), (pays, list(worths)), (as_lists(pays), worths), as_lists(COURT),
            put(COURT, (0, 0), list(pays[0])), put(COURT, (1, 1), list(worths[1])), put(COURT, (1, 1, 1), [1, 1]),
        ):
            self.assertIs(is_setting(wrong), False)

    def test_whatever_it_is(self):
        for thing in anything():
            self.assertIs(is_setting(thing), False)
            self.assertIs(is_setting((thing, thing)), False)
            self.assertIs(is_setting((COURT[0], thing)), False)
            self.assertIs(is_setting((thing, COURT[1])), False)

    def test_lists_are_not_changed(self):
        given = as_lists(COURT)
        is_setting(given)
        self.assertEqual(given, as_lists(COURT))


class IsBeliefTest(unittest.TestCase):
    def test_beliefs(self):
        for states in (2, 3, 4):
            setting = plain_setting(states, 2)
            for belief in grid(states, 5):
                self.assertIs(is_belief(setting, belief), True)
                self.assertIs(is_belief(setting=setting, value=belief), True)
                for other in (2, 3, 4):
                    self.assertIs(is_belief(plain_setting(other), belief), other == states)
        self.assertIs(is_belief(COURT, ((1, GREAT), (GREAT - 1, GREAT))), True)

    def test_other_sums(self):
        for numbers_of in ((1, 1), (0, 0), ("1/2", "1/3"), ("1/2", "2/3"), (0, "999/1000")):
            self.assertIs(is_belief(COURT, row(*numbers_of)), False)
        self.assertIs(is_belief(COURT, ((1, GREAT), (GREAT - 2, GREAT))), False)

    def test_below_nothing(self):
        self.assertIs(is_belief(COURT, row(-1, 2)), False)
        self.assertIs(is_belief(COURT, row(2, -1)), False)
        self.assertIs(is_belief(plain_setting(3), row("-1/3", "2/3", "2/3")), False)

    def test_wrong_fractions(self):
        for wrong in WRONG_FRACTIONS:
            for belief in ((wrong, NIL), (NIL, wrong), (wrong, ONE), (ONE, wrong), (wrong, HALF), (wrong, wrong)):
                self.assertIs(is_belief(COURT, belief), False)

    def test_not_in_lowest_terms(self):
        for belief in (((2, 4), (2, 4)), ((0, 2), (1, 1)), ((2, 2), (0, 1)), ((-1, -2), (1, 2))):
            self.assertIs(is_belief(COURT, belief), False)

    def test_whatever_it_is(self):
        for thing in anything() + [[ONE, NIL], [NIL, ONE], (ONE,), (ONE, NIL, NIL), (HALF,), ONE, COURT]:
            self.assertIs(is_belief(COURT, thing), False)

    def test_list_of_fractions(self):
        self.assertIs(is_belief(COURT, list(PRIOR)), False)
        self.assertIs(is_belief(COURT, tuple(list(part) for part in PRIOR)), False)


class NumbersTest(unittest.TestCase):
    def assert_fraction(self, fraction, number):
        self.assertEqual(fraction, pair(number))
        self.assertIs(fraction.__class__, tuple)
        self.assertEqual([part.__class__ for part in fraction], [int, int])

    def test_sure(self):
        for states in (2, 3, 4):
            for state in range(states):
                told = sure(plain_setting(states), state)
                self.assertEqual(told, tuple(ONE if k == state else NIL for k in range(states)))
        self.assertEqual(sure(setting=COURT, state=0), (ONE, NIL))

    def test_against_the_words(self):
        for setting in random_settings(2, 90):
            pays, worths = setting
            for belief in grid(len(pays[0]), 4):
                paid, brought = [at(told, belief) for told in pays], [at(told, belief) for told in worths]
                best = [k for k in range(len(pays)) if not any(other > paid[k] for other in paid)]
                most = max(brought[k] for k in best)
                for k in range(len(pays)):
                    self.assert_fraction(pay(setting, k, belief), paid[k])
                    self.assert_fraction(worth(setting, k, belief), brought[k])
                self.assertEqual(best_actions(setting, belief), tuple(best))
                self.assertEqual(choice(setting, belief), min(k for k in best if brought[k] == most))
                self.assert_fraction(value(setting, belief), most)

    def test_by_name(self):
        self.assertEqual(pay(setting=COURT, action=0, belief=PRIOR), (7, 10))
        self.assertEqual(worth(belief=PRIOR, action=1, setting=COURT), ONE)
        self.assertEqual(best_actions(setting=COURT, belief=(HALF, HALF)), (0, 1))
        self.assertEqual(choice(belief=(HALF, HALF), setting=COURT), 1)
        self.assertEqual(value(setting=COURT, belief=(HALF, HALF)), ONE)

    def test_lowest_terms(self):
        setting = (table(["1/2", "1/6"], ["1/3", "-1/3"]), table([6, 3], ["-3/2", "1/2"]))
        belief = row("1/4", "3/4")
        self.assertEqual([pay(setting, 0, belief), pay(setting, 1, belief)], [(1, 4), (-1, 6)])
        self.assertEqual([worth(setting, 0, belief), worth(setting, 1, belief)], [(15, 4), (0, 1)])

    def test_ties(self):
        setting = (table([0, 0], [1, -1], [-1, 1], [0, 0]), table([1, 2], [3, 0], [0, 3], [2, 1]))
        self.assertEqual(best_actions(setting, (HALF, HALF)), (0, 1, 2, 3))
        self.assertEqual([choice(setting, (HALF, HALF)), value(setting, (HALF, HALF))], [0, (3, 2)])
        alike = (table([1, 1], [1, 1], [1, 1]), table([0, 1], [1, 0], [1, 0]))
        told = [(best_actions(alike, b), choice(alike, b), value(alike, b)) for b in grid(2, 2)]
        self.assertEqual(told, [((0, 1, 2), 0, ONE), ((0, 1, 2), 0, HALF), ((0, 1, 2), 1, ONE)])

    def test_the_choice_is_best_for_the_receiver_first(self):
        setting = (table([2, 2], [1, 1]), table([0, 0], [9, 9]))
        for belief in grid(2, 3):
            self.assertEqual([choice(setting, belief), value(setting, belief)], [0, NIL])

    def test_values_below_nothing(self):
        setting = (table([1, 1], [1, 1]), table([-3, -2], [-2, -3]))
        self.assertEqual([value(setting, b) for b in grid(2, 2)], [(-2, 1), (-5, 2), (-2, 1)])
        self.assertEqual([choice(setting, b) for b in grid(2, 2)], [0, 0, 1])

    def test_great_numbers(self):
        setting = (((pair(GREAT), NIL), (NIL, pair(GREAT + 1))), (((1, GREAT), NIL), (NIL, (-1, GREAT))))
        even = (HALF, HALF)
        self.assert_fraction(pay(setting, 0, even), number_of((GREAT, 1)) / 2)
        self.assertEqual(best_actions(setting, even), (1,))
        self.assert_fraction(value(setting, even), number_of((-1, GREAT)) / 2)
        tie = ((GREAT + 1, 2 * GREAT + 1), (GREAT, 2 * GREAT + 1))
        self.assertEqual([best_actions(setting, tie), choice(setting, tie)], [(0, 1), 0])
        self.assert_fraction(value(setting, tie), number_of(tie[0]) / GREAT)

    def test_equal_calls(self):
        for setting in random_settings(3, 15):
            for belief in grid(len(setting[0][0]), 2):
                for told in (best_actions, choice, value):
                    self.assertEqual(told(setting, belief), told(setting, belief))


def plus(rows, added):
    return tuple(row(*[x + y for x, y in zip(numbers(told), numbers(added))]) for told in rows)


def times(rows, factor):
    return tuple(row(*[factor * x for x in numbers(told)]) for told in rows)


class WhatStaysTest(unittest.TestCase):
    def test_pays_with_a_row_and_times_a_number(self):
        chance = random.Random(4)
        for setting in random_settings(5, 60):
            pays, worths = setting
            states = len(pays[0])
            added = row(*[chance.randint(-5, 5) for _ in range(states)])
            factor = number_of((chance.randint(1, 9), chance.randint(1, 9)))
            for other in ((plus(pays, added), worths), (times(pays, factor), worths)):
                for belief in grid(states, 4):
                    for told in (best_actions, choice, value):
                        self.assertEqual(told(other, belief), told(setting, belief))

    def test_worths_with_a_row_and_times_a_number(self):
        chance = random.Random(6)
        for setting in random_settings(7, 60):
            pays, worths = setting
            states = len(pays[0])
            added = row(*[chance.randint(-5, 5) for _ in range(states)])
            factor = number_of((chance.randint(1, 9), chance.randint(1, 9)))
            more, great = (pays, plus(worths, added)), (pays, times(worths, factor))
            for belief in grid(states, 4):
                number = number_of(value(setting, belief))
                self.assertEqual(value(more, belief), pair(number + at(added, belief)))
                self.assertEqual(value(great, belief), pair(number * factor))
                self.assertEqual(choice(more, belief), choice(setting, belief))
                self.assertEqual(choice(great, belief), choice(setting, belief))

    def test_greater_worths(self):
        for setting in random_settings(8, 45):
            pays, worths = setting
            more = (pays, plus(worths, row(*[k % 2 for k in range(len(pays[0]))])))
            for belief in grid(len(pays[0]), 3):
                gained = number_of(value(more, belief)) - number_of(value(setting, belief))
                self.assertTrue(0 <= gained <= 1)

    def test_an_action_without_a_cell(self):
        for belief in grid(2, 12):
            self.assertEqual(value(IDLE, belief), value(COURT, belief))
            self.assertEqual(choice(IDLE, belief), choice(COURT, belief))


WRONG_INDEXES = (
    -1, 2, 3, 10 ** 500, -10 ** 500, True, False, None, "0", "", b"0", (0,), [0], (0, 1), {0: 0}, 1j, object(),
    nested(tuple, 60), nested(list, 60),
)


class ErrorsTest(GivenCase):
    def test_settings(self):
        for wrong in WRONG_SETTINGS:
            self.assert_given(InvalidSetting, wrong, is_belief, wrong, PRIOR)
            self.assert_given(InvalidSetting, wrong, sure, wrong, 0)
            for call in (best_actions, choice, value):
                self.assert_given(InvalidSetting, wrong, call, wrong, PRIOR)
                self.assert_given(InvalidSetting, wrong, call, setting=wrong, belief=PRIOR)
            for call in (pay, worth):
                self.assert_given(InvalidSetting, wrong, call, wrong, 0, PRIOR)

    def test_beliefs(self):
        for wrong in WRONG_BELIEFS:
            for call in (best_actions, choice, value):
                self.assert_given(InvalidBelief, wrong, call, COURT, wrong)
                self.assert_given(InvalidBelief, wrong, call, setting=COURT, belief=wrong)
            for call in (pay, worth):
                self.assert_given(InvalidBelief, wrong, call, COURT, 0, wrong)

    def test_beliefs_of_whatever_kind(self):
        for wrong in anything():
            for call in (best_actions, choice, value):
                self.assert_given(InvalidBelief, wrong, call, COURT, wrong)

    def test_actions(self):
        for wrong in WRONG_INDEXES:
            for call in (pay, worth):
                self.assert_given(InvalidAction, wrong, call, COURT, wrong, PRIOR)
                self.assert_given(InvalidAction, wrong, call, setting=COURT, action=wrong, belief=PRIOR)
        self.assert_given(InvalidAction, 1, pay, plain_setting(2), 1, PRIOR)
        self.assertEqual(pay(IDLE, 2, PRIOR), THIRD)

    def test_states(self):
        for wrong in WRONG_INDEXES:
            self.assert_given(InvalidState, wrong, sure, COURT, wrong)
            self.assert_given(InvalidState, wrong, sure, setting=COURT, state=wrong)
        self.assertEqual(sure(plain_setting(3), 2), (NIL, NIL, ONE))

    def test_the_first_of_two(self):
        self.assert_given(InvalidSetting, None, is_belief, None, None)
        self.assert_given(InvalidSetting, None, sure, None, None)
        self.assert_given(InvalidSetting, None, sure, state=9, setting=None)
        for call in (best_actions, choice, value):
            self.assert_given(InvalidSetting, (), call, (), [])
            self.assert_given(InvalidSetting, (), call, belief=[], setting=())
        for call in (pay, worth):
            self.assert_given(InvalidSetting, (), call, (), 9, [])
            self.assert_given(InvalidAction, 9, call, COURT, 9, [])
            self.assert_given(InvalidAction, 9, call, belief=[], action=9, setting=COURT)

    def test_a_list_stays_as_it_was(self):
        given = as_lists(COURT)
        self.assert_given(InvalidSetting, given, choice, given, PRIOR)
        self.assertEqual(given, as_lists(COURT))


class InterfaceTest(unittest.TestCase):
    def test_names_and_arguments(self):
        told = {
            "is_setting": ["value"], "is_belief": ["setting", "value"], "sure": ["setting", "state"],
            "pay": ["setting", "action", "belief"], "worth": ["setting", "action", "belief"],
            "best_actions": ["setting", "belief"], "choice": ["setting", "belief"], "value": ["setting", "belief"],
        }
        for name, arguments in told.items():
            call = getattr(settings, name)
            self.assertEqual(call.__module__, "persuasion.settings")
            self.assertEqual(list(inspect.signature(call).parameters), arguments)


if __name__ == "__main__":
    unittest.main()
