import inspect
import random
import unittest

from persuasion import cells
from persuasion.cells import cell_corners, corners, is_full, never_best
from persuasion.errors import InvalidAction, InvalidSetting
from persuasion.settings import best_actions, sure, value
from samples import (
    COURT, HALF, IDLE, NIL, ONE, GivenCase, anything, as_lists, at, corners_by_equations, grid, nested, number_of,
    numbers, pair, random_settings, rank, row, table,
)


def setting_for(pays):
    return (pays, ((NIL,) * len(pays[0]),) * len(pays))


def pointwise(setting):
    return range(len(setting[0]))


SURE_3 = grid(3, 1)
GUESS_3 = setting_for(table([1, 0, 0], [0, 1, 0], [0, 0, 1]))
GUESS_4 = setting_for(table([1, 0, 0, 0], [0, 1, 0, 0], [0, 0, 1, 0], [0, 0, 0, 1]))


class HandTest(unittest.TestCase):
    def test_one_action(self):
        for states in (2, 3, 4):
            setting = setting_for(table([5] * states))
            told = tuple(sorted(sure(setting, s) for s in range(states)))
            self.assertEqual(cell_corners(setting, 0), told)
            self.assertEqual([corners(setting), is_full(setting, 0), never_best(setting)], [told, True, ()])

    def test_guess_of_three(self):
        third = row("1/3", "1/3", "1/3")
        self.assertEqual(cell_corners(GUESS_3, 0), (third, row("1/2", 0, "1/2"), row("1/2", "1/2", 0), row(1, 0, 0)))
        self.assertEqual(cell_corners(GUESS_3, 2), (row(0, 0, 1), row(0, "1/2", "1/2"), third, row("1/2", 0, "1/2")))
        self.assertEqual(len(corners(GUESS_3)), 7)
        self.assertEqual([is_full(GUESS_3, k) for k in range(3)], [True, True, True])

    def test_guess_of_four(self):
        self.assertEqual(len(corners(GUESS_4)), 15)
        for action in range(4):
            found = cell_corners(GUESS_4, action)
            self.assertEqual(len(found), 8)
            self.assertEqual(found[-1] == sure(GUESS_4, 0), action == 0)
            self.assertIn(row("1/4", "1/4", "1/4", "1/4"), found)
            self.assertTrue(is_full(GUESS_4, action))

    def test_actions_that_pay_alike(self):
        setting = setting_for(table([1, 0], [0, 1], [1, 0], [1, 0]))
        for action in (0, 2, 3):
            self.assertEqual(cell_corners(setting, action), ((HALF, HALF), (ONE, NIL)))
            self.assertIs(is_full(setting, action), True)
        self.assertEqual(corners(setting), corners(COURT))
        alike = setting_for(table([2, 3, 4], [2, 3, 4]))
        self.assertEqual([cell_corners(alike, 0), cell_corners(alike, 1)], [tuple(SURE_3), tuple(SURE_3)])
        self.assertEqual([is_full(alike, 0), is_full(alike, 1), never_best(alike)], [True, True, ()])

    def test_never_best(self):
        setting = setting_for(table([-1, -1], [1, 0], ["1/3", "1/3"], [0, 1], [-5, 0]))
        self.assertEqual(never_best(setting), (0, 2, 4))
        for action in (0, 2, 4):
            self.assertEqual(cell_corners(setting, action), ())
            self.assertIs(is_full(setting, action), False)
        self.assertEqual(corners(setting), corners(COURT))

    def test_cell_of_one_belief(self):
        setting = setting_for(table([1, 0], [0, 1], ["1/2", "1/2"]))
        self.assertEqual(cell_corners(setting, 2), ((HALF, HALF),))
        self.assertEqual([is_full(setting, k) for k in range(3)], [True, True, False])
        self.assertEqual(never_best(setting), ())
        edge = setting_for(table([1, 1, 1], [1, 0, 0]))
        self.assertEqual([cell_corners(edge, 1), is_full(edge, 1)], [((ONE, NIL, NIL),), False])

    def test_flat_cells(self):
        setting = setting_for(table([1, 1, 0], [0, 0, 1], ["1/2", "1/2", "1/2"]))
        flat = (row(0, "1/2", "1/2"), row("1/2", 0, "1/2"))
        self.assertEqual([cell_corners(setting, 2), is_full(setting, 2)], [flat, False])
        side = setting_for(table([0, 0, 0], [0, 0, -1]))
        self.assertEqual(cell_corners(side, 1), ((NIL, ONE, NIL), (ONE, NIL, NIL)))
        self.assertEqual([is_full(side, 0), is_full(side, 1)], [True, False])
        plate = setting_for(table([0, 0, 0, 0], [0, 0, 0, -1]))
        self.assertEqual([len(cell_corners(plate, 1)), is_full(plate, 1)], [3, False])

    def test_flat_cell_of_four_corners_in_four_states(self):
        setting = setting_for(table([1, 1, 0, 0], [0, 0, 1, 1], ["1/2", "1/2", "1/2", "1/2"]))
        self.assertEqual(len(cell_corners(setting, 2)), 4)
        self.assertEqual([is_full(setting, k) for k in range(3)], [True, True, False])

    def test_ascending_as_numbers(self):
        setting = setting_for(table([1, 0], [0, 10], ["9/10", 1]))
        told = corners(setting)
        self.assertEqual(told, (row(0, 1), row("10/11", "1/11"), row(1, 0)))
        self.assertEqual([numbers(belief) for belief in told], sorted(numbers(belief) for belief in told))
        thin = setting_for(table([1, 0, 0], [0, 9, 0], [0, 0, "1/7"], ["1/5", "1/5", "1/9"]))
        for found in [corners(thin)] + [cell_corners(thin, k) for k in range(4)]:
            self.assertEqual([numbers(belief) for belief in found], sorted(numbers(belief) for belief in found))

    def test_great_numbers(self):
        great = 10 ** 399 + 7
        setting = setting_for(((pair(great), NIL), (NIL, (1, great))))
        middle = ((1, great * great + 1), (great * great, great * great + 1))
        self.assertEqual(cell_corners(setting, 0), (middle, (ONE, NIL)))
        self.assertEqual(corners(setting), ((NIL, ONE), middle, (ONE, NIL)))
        self.assertEqual([is_full(setting, 0), best_actions(setting, middle)], [True, (0, 1)])

    def test_by_name(self):
        self.assertEqual(cell_corners(action=0, setting=COURT), ((HALF, HALF), (ONE, NIL)))
        self.assertIs(is_full(action=2, setting=IDLE), False)
        self.assertEqual(corners(setting=COURT), ((NIL, ONE), (HALF, HALF), (ONE, NIL)))
        self.assertEqual(never_best(setting=IDLE), (2,))


class WordsTest(unittest.TestCase):
    def test_against_the_equations(self):
        for setting in random_settings(11, 120):
            found = [corners_by_equations(setting, action) for action in pointwise(setting)]
            for action in pointwise(setting):
                told = cell_corners(setting, action)
                self.assertEqual(told, found[action])
                self.assertIs(is_full(setting, action), rank(told) == len(setting[0][0]))
            every = sorted(set(tuple(numbers(belief)) for told in found for belief in told))
            self.assertEqual(corners(setting), tuple(row(*belief) for belief in every))
            self.assertEqual(never_best(setting), tuple(k for k in pointwise(setting) if not found[k]))

    def test_sure_beliefs_are_corners(self):
        for setting in random_settings(12, 60):
            told = corners(setting)
            for state in range(len(setting[0][0])):
                self.assertIn(sure(setting, state), told)

    def test_corners_lie_in_their_cell(self):
        for setting in random_settings(13, 60):
            for action in pointwise(setting):
                for belief in cell_corners(setting, action):
                    self.assertIn(action, best_actions(setting, belief))

    def test_no_corner_is_a_mean_of_two_beliefs(self):
        for setting in random_settings(14, 60):
            for action in pointwise(setting):
                told = cell_corners(setting, action)
                for belief in told:
                    for other in told:
                        if other != belief:
                            self.assertFalse(goes_on(setting, action, belief, other))

    def test_cells_lie_within_their_corners(self):
        chance = random.Random(15)
        for setting in random_settings(16, 45):
            states = len(setting[0][0])
            ways = [row(*[chance.randint(-9, 9) for _ in range(states)]) for _ in range(12)]
            beliefs = [(belief, best_actions(setting, belief)) for belief in grid(states, 5)]
            for action in pointwise(setting):
                told = cell_corners(setting, action)
                inside = [belief for belief, best in beliefs if action in best]
                self.assertTrue(told or not inside)
                for way in ways if inside else []:
                    self.assertLessEqual(max(at(way, b) for b in inside), max(at(way, b) for b in told))

    def test_the_value_at_corners_is_the_greatest_worth_of_their_cells(self):
        for setting in random_settings(17, 45):
            for belief in corners(setting):
                of = [k for k in pointwise(setting) if belief in corners_by_equations(setting, k)]
                most = max(at(setting[1][k], belief) for k in of)
                self.assertEqual(value(setting, belief), pair(most))

    def test_what_stays(self):
        for setting in random_settings(18, 45):
            pays, worths = setting
            added = [3, -2, 5, 1][:len(pays[0])]
            more = tuple(row(*[x + y for x, y in zip(numbers(told), added)]) for told in pays)
            great = tuple(row(*[x * 7 / 3 for x in numbers(told)]) for told in pays)
            for other in ((more, worths), (great, worths), (pays, pays)):
                self.assertEqual(corners(other), corners(setting))
                self.assertEqual(never_best(other), never_best(setting))
                for action in pointwise(setting):
                    self.assertEqual(cell_corners(other, action), cell_corners(setting, action))
                    self.assertEqual(is_full(other, action), is_full(setting, action))

    def test_without_what_is_never_best(self):
        for setting in random_settings(19, 60):
            kept = [k for k in pointwise(setting) if k not in never_best(setting)]
            other = tuple(tuple(rows[k] for k in kept) for rows in setting)
            self.assertEqual([corners(other), never_best(other)], [corners(setting), ()])

    def test_equal_calls_and_kinds(self):
        for setting in random_settings(20, 15):
            self.assertEqual(corners(setting), corners(setting))
            for belief in corners(setting):
                self.assertIs(belief.__class__, tuple)
                self.assertEqual([part.__class__ for part in belief], [tuple] * len(belief))


def goes_on(setting, action, belief, other):
    """Whether the line from another belief of the cell goes on in it behind a belief."""
    step = number_of((1, 10 ** 6))
    behind = [x + step * (x - y) for x, y in zip(numbers(belief), numbers(other))]
    if min(behind) < 0:
        return False
    return action in best_actions(setting, row(*behind))


class ErrorsTest(GivenCase):
    def test_settings(self):
        for wrong in anything() + [as_lists(COURT), (COURT[0], COURT[1][:1]), COURT[:1]]:
            self.assert_given(InvalidSetting, wrong, cell_corners, wrong, 0)
            self.assert_given(InvalidSetting, wrong, is_full, wrong, 0)
            self.assert_given(InvalidSetting, wrong, corners, wrong)
            self.assert_given(InvalidSetting, wrong, never_best, wrong)
            self.assert_given(InvalidSetting, wrong, corners, setting=wrong)
            self.assert_given(InvalidSetting, wrong, never_best, setting=wrong)

    def test_actions(self):
        for wrong in (
            -1, 2, 10 ** 500, True, False, None, "0", (0,), [0], 1j, object(), nested(tuple, 60), nested(list, 60),
        ):
            for call in (cell_corners, is_full):
                self.assert_given(InvalidAction, wrong, call, COURT, wrong)
                self.assert_given(InvalidAction, wrong, call, action=wrong, setting=COURT)

    def test_the_first_of_two(self):
        for call in (cell_corners, is_full):
            self.assert_given(InvalidSetting, None, call, None, None)
            self.assert_given(InvalidSetting, None, call, action=9, setting=None)


class InterfaceTest(unittest.TestCase):
    def test_names_and_arguments(self):
        told = {
            "cell_corners": ["setting", "action"], "is_full": ["setting", "action"], "corners": ["setting"],
            "never_best": ["setting"],
        }
        for name, arguments in told.items():
            call = getattr(cells, name)
            self.assertEqual(call.__module__, "persuasion.cells")
            self.assertEqual(list(inspect.signature(call).parameters), arguments)


if __name__ == "__main__":
    unittest.main()
