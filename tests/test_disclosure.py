import unittest
from itertools import combinations

from persuasion import disclosure
from persuasion.disclosure import is_disclosed, reasons, sceptical, sure_answers
from persuasion.errors import InvalidLot, InvalidSetting
from samples import (
    COURT, HALF, NIL, ONE, WRONG_SETTINGS, GivenCase, Odd, anything, as_lists, at, grid, is_best, is_chances, nested,
    number_of, numbers, pair, plain_setting, random_settings, row, table,
)

GREAT = 10 ** 399 + 7
RIVALS = (COURT[0], ((NIL, ONE), (ONE, NIL)))


def lots_of(states):
    return [lot for many in range(1, states + 1) for lot in combinations(range(states), many)]


def sure_answer(setting, state):
    """The choice at a sure belief, worked out from the words of point 7."""
    paid = [number_of(told[state]) for told in setting[0]]
    brought = [number_of(told[state]) for told in setting[1]]
    best = [k for k in range(len(paid)) if paid[k] == max(paid)]
    return min(k for k in best if brought[k] == max(brought[j] for j in best))


def gains(setting, action, state):
    return number_of(setting[1][action][state]) > number_of(setting[1][sure_answer(setting, state)][state])


class DisclosureCase(GivenCase):
    def assert_sceptical(self, setting, lot, told):
        self.assertIs(type(told), tuple)
        action, belief = told
        self.assertIs(type(action), int)
        self.assertTrue(is_chances(belief, len(setting[0][0])))
        self.assertEqual([state for state, number in enumerate(numbers(belief)) if number and state not in lot], [])
        self.assertTrue(is_best(setting, action, belief))
        self.assertFalse(any(gains(setting, action, state) for state in lot))

    def assert_reasons(self, setting, lot, told):
        self.assertIs(type(told), tuple)
        self.assertEqual(len(told), len(setting[0]))
        for action, (word, what) in enumerate(told):
            if word == "gains":
                self.assertIn(what, lot)
                self.assertTrue(gains(setting, action, what))
            else:
                self.assertEqual(word, "beaten")
                self.assertTrue(is_chances(what, len(told)))
                for state in lot:
                    mixed = at(what, [row[state] for row in setting[0]])
                    self.assertGreater(mixed, number_of(setting[0][action][state]))


class WordsTest(DisclosureCase):
    def test_just_one(self):
        kinds = []
        for setting in random_settings(71, 150):
            without = []
            for lot in lots_of(len(setting[0][0])):
                answer, against = sceptical(setting, lot), reasons(setting, lot)
                if answer is None:
                    self.assert_reasons(setting, lot, against)
                    kinds.extend(word for word, _ in against)
                    without.append(lot)
                else:
                    self.assertIsNone(against)
                    self.assert_sceptical(setting, lot, answer)
            self.assertIs(is_disclosed(setting), not without)
        self.assertGreater(min(kinds.count("gains"), kinds.count("beaten")), 20)

    def test_none_where_none_is_on_a_grid(self):
        for setting in random_settings(72, 60):
            states = len(setting[0][0])
            for lot in lots_of(states):
                if sceptical(setting, lot) is None:
                    for belief in grid(states, 4):
                        if all(number == NIL or state in lot for state, number in enumerate(belief)):
                            for action in range(len(setting[0])):
                                best = is_best(setting, action, belief)
                                self.assertFalse(best and not any(gains(setting, action, s) for s in lot))

    def test_sure_answers(self):
        for setting in random_settings(73, 90):
            states = len(setting[0][0])
            told = sure_answers(setting)
            self.assertEqual(told, tuple(sure_answer(setting, state) for state in range(states)))
            for state in range(states):
                self.assert_sceptical(setting, (state,), sceptical(setting, (state,)))
                self.assertIsNone(reasons(setting, (state,)))

    def test_by_name(self):
        self.assertEqual(sure_answers(setting=COURT), (0, 1))
        self.assertIsNone(sceptical(lot=(0, 1), setting=RIVALS))
        self.assert_reasons(RIVALS, (0, 1), reasons(lot=(0, 1), setting=RIVALS))
        self.assertIs(is_disclosed(setting=RIVALS), False)


class HandTest(DisclosureCase):
    def test_an_order_of_worths(self):
        # All like the greater action in each state: each lot is taken for its least state.
        setting = (table([0, -1, -4], [-1, 0, -1], [-4, -1, 0]), table([0, 0, 0], [1, 1, 1], [2, 2, 2]))
        self.assertEqual(sure_answers(setting), (0, 1, 2))
        self.assertIs(is_disclosed(setting), True)
        for lot in lots_of(3):
            self.assertEqual(sceptical(setting, lot)[0], lot[0])

    def test_one_action(self):
        for states in (2, 3, 4):
            self.assertEqual(sure_answers(plain_setting(states)), (0,) * states)
            self.assertIs(is_disclosed(plain_setting(states)), True)
            for lot in lots_of(states):
                self.assert_sceptical(plain_setting(states), lot, sceptical(plain_setting(states), lot))

    def test_beaten_by_a_mix_alone(self):
        # Action 2 alone gains nobody anything, but either one of the others pays more, or half of each.
        setting = (table([4, 0], [0, 4], [1, 1]), table([0, 5], [5, 0], [0, 0]))
        self.assertEqual(sure_answers(setting), (0, 1))
        told = reasons(setting, (0, 1))
        self.assert_reasons(setting, (0, 1), told)
        self.assertEqual([word for word, _ in told], ["gains", "gains", "beaten"])
        self.assertEqual(is_disclosed(setting), False)
        just = (table([4, 0], [0, 4], [2, 2]), setting[1])
        self.assertEqual(sceptical(just, (0, 1)), (2, (HALF, HALF)))
        less = (table([4, 0], [0, 4], [2, 2 - number_of((1, GREAT))]), setting[1])
        self.assertIsNone(sceptical(less, (0, 1)))
        self.assert_reasons(less, (0, 1), reasons(less, (0, 1)))

    def test_beaten_only_on_the_lot(self):
        setting = (
            table([1, 1, 0], [0, 0, 0], [0, 0, 9]), table([1, 0, 0], [0, 0, 0], [0, 0, 0]),
        )
        self.assert_sceptical(setting, (0, 2), sceptical(setting, (0, 2)))
        beaten = (table([1, 1, 0], [0, 0, 1]), table([1, 0, 9], [0, 0, 0]))
        self.assertEqual(sure_answers(beaten), (0, 0, 1))
        self.assertEqual(sceptical(beaten, (0, 1))[0], 0)
        self.assertEqual(sceptical(beaten, (0, 1, 2))[0], 1)

    def test_ties(self):
        setting = (table([1, 1], [1, 1], [1, 1]), table([0, 2], [2, 0], [1, 1]))
        self.assertEqual(sure_answers(setting), (1, 0))
        self.assert_sceptical(setting, (0, 1), sceptical(setting, (0, 1)))
        same = (table([1, 0], [1, 0]), table([1, 1], [1, 1]))
        self.assertEqual(sure_answers(same), (0, 0))

    def test_great_numbers(self):
        setting = (
            ((pair(GREAT), NIL), (NIL, (1, GREAT))), ((NIL, (1, GREAT)), ((1, GREAT), NIL)),
        )
        self.assertIsNone(sceptical(setting, (0, 1)))
        self.assert_reasons(setting, (0, 1), reasons(setting, (0, 1)))


class ErrorsTest(GivenCase):
    def assert_lot(self, index, lot, states=2):
        for call in (sceptical, reasons):
            for named in (False, True):
                with self.assertRaises(InvalidLot) as caught:
                    if named:
                        call(lot=lot, setting=plain_setting(states))
                    else:
                        call(plain_setting(states), lot)
                self.assertIs(caught.exception.__class__, InvalidLot)
                self.assertEqual(caught.exception.index, index)

    def test_settings(self):
        told = {"setting": (InvalidSetting, WRONG_SETTINGS)}
        for call in (sceptical, reasons):
            self.assert_errors(call, {"setting": COURT, "lot": (0,)}, told)
        for call in (sure_answers, is_disclosed):
            self.assert_errors(call, {"setting": COURT}, told)

    def test_no_tuple_of_one_or_more(self):
        for wrong in (None, (), [], [0], [0, 1], 0, True, "", "01", b"01", {0: 1}, {0, 1}, range(2), Odd(), object()):
            self.assert_lot(None, wrong)
        for wrong in anything():
            if not isinstance(wrong, tuple):
                self.assert_lot(None, wrong)

    def test_the_first_that_is_wrong(self):
        for index, lot in (
            (0, (2,)), (0, (-1,)), (0, (2, 0)), (1, (0, 0)), (1, (1, 0)), (1, (0, 2)), (2, (0, 1, 1)), (2, (0, 1, 2)),
            (1, (1, 0, 7)), (0, (True,)), (0, (False, 1)), (1, (0, True)), (0, ("0",)), (0, (None, 0)), (1, (0, None)),
            (0, ((0,),)), (0, ([0],)), (1, (0, [1])), (0, (Odd(),)), (1, (1, Odd(), Odd())), (0, (nested(tuple, 59),)),
            (0, (1j,)), (0, (10 ** 500,)), (1, (0, 10 ** 500)), (0, ((),)), (1, (0, 0.5.as_integer_ratio())),
        ):
            self.assert_lot(index, lot)
        self.assert_lot(4, (0, 1, 2, 3, 3), 4)
        self.assert_lot(4, (0, 1, 2, 3, 4), 4)
        self.assert_lot(2, (0, 3, 1), 4)
        self.assert_lot(1, (0,) * 1000, 4)

    def test_nothing_is_changed(self):
        given, lot = as_lists(COURT), [0, 1]
        self.assert_given(InvalidSetting, given, sceptical, given, lot)
        self.assert_lot(None, lot)
        self.assertEqual([given, lot], [as_lists(COURT), [0, 1]])

    def test_interface(self):
        self.assert_interface(disclosure, {
            "sure_answers": "setting", "sceptical": "setting lot", "reasons": "setting lot", "is_disclosed": "setting",
        })


if __name__ == "__main__":
    unittest.main()
