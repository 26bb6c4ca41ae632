import random
import unittest
from fractions import Fraction

from persuasion import telling
from persuasion.cells import is_full
from persuasion.errors import InvalidBelief, InvalidSetting
from persuasion.roofs import roof, roof_at
from persuasion.telling import against_all, all_best_at, all_told, gain, helped, helps, is_all_best, never_helps
from samples import (
    COURT, HALF, IDLE, NIL, ONE, PRIOR, WRONG_BELIEFS, WRONG_SETTINGS, GivenCase, anything, as_lists, at,
    corners_by_equations, corners_of, grid, near_settings, number_of, numbers, pair, plain_setting, priors_for,
    random_settings, rank, row, swapped, table, value_at, with_worths,
)

GREAT = 10 ** 399 + 7
FRIEND, FOE = with_worths(COURT, "friend"), with_worths(COURT, "foe")


def settings_for(seed, many):
    near = near_settings(seed, many)
    return random_settings(seed, many) + near + [
        with_worths(setting, kind) for setting in near[:15] for kind in ("friend", "foe")
    ]


def is_above_by_corners(setting, plane):
    return all(at(plane, belief) >= value_at(setting, belief) for belief in corners_of(setting))


def full_cells(setting):
    """The actions with full cells and their corners, worked out from the words of point 8."""
    cells = [(k, corners_by_equations(setting, k)) for k in range(len(setting[0]))]
    return [(k, cell) for k, cell in cells if rank(cell) == len(setting[0][0])]


def never_by_planes(setting):
    """Whether for each full cell the worths of some action with the same pays are a plane above."""
    pays, worths = setting
    return all(
        any(is_above_by_corners(setting, worths[c]) for c in range(len(pays)) if pays[c] == pays[a])
        for a, _ in full_cells(setting)
    )


def middle_of(cell):
    return row(*[sum(numbers(b)[s] for b in cell) / len(cell) for s in range(len(cell[0]))])


def told_plane(setting):
    states = len(setting[0][0])
    return row(*[value_at(setting, row(*[int(k == s) for k in range(states)])) for s in range(states)])


class HelpsTest(GivenCase):
    def test_gain(self):
        chance, told = random.Random(121), []
        for setting in settings_for(122, 45):
            planes = roof(setting)
            for prior in priors_for(chance, len(setting[0][0]), 2):
                number = min(at(plane, prior) for plane in planes) - value_at(setting, prior)
                self.assertGreaterEqual(number, 0)
                self.assertEqual(gain(setting, prior), pair(number))
                self.assertIs(helps(setting, prior), number > 0)
                told.append(number > 0)
        self.assertGreater(min(told.count(True), told.count(False)), 50)

    def test_never(self):
        told = []
        for setting in settings_for(123, 90):
            never = never_by_planes(setting)
            told.append(never)
            self.assertIs(never_helps(setting), never)
            middles = [middle_of(cell) for _, cell in full_cells(setting)]
            wanted = [b for b in middles if number_of(roof_at(setting, b)) > value_at(setting, b)]
            self.assertEqual(helped(setting), wanted[0] if wanted else None)
            self.assertEqual(never, not wanted)
            if never:
                for belief in grid(len(setting[0][0]), 4):
                    self.assertIs(helps(setting, belief), False)
            else:
                self.assertIs(helps(setting, helped(setting)), True)
        self.assertGreater(min(told.count(True), told.count(False)), 30)

    def test_opposite_interests(self):
        for setting in near_settings(124, 30) + random_settings(125, 30):
            self.assertIs(never_helps(with_worths(setting, "foe")), True)
            self.assertIsNone(helped(with_worths(setting, "foe")))

    def test_actions_with_like_pays(self):
        alike = (table([0, 0], [0, 0]), table([1, 1], [0, 0]))
        self.assertEqual([never_helps(alike), helped(alike)], [True, None])
        self.assertEqual([never_helps(swapped(alike, (1, 0))), helped(swapped(alike, (1, 0)))], [True, None])
        crossed = (alike[0], table([1, 0], [0, 1]))
        self.assertEqual([never_helps(crossed), helped(crossed)], [False, (HALF, HALF)])
        for setting in near_settings(126, 45):
            if len(setting[0]) < 5:
                # One more action that pays as the last one does, worth 9 more: it is taken in its place.
                other = (setting[0] + setting[0][-1:], setting[1] + (row(*[x + 9 for x in numbers(setting[1][-1])]),))
                self.assertIs(never_helps(other), never_by_planes(other))

    def test_full_in_one_cell_alone(self):
        one = (table([0, 0], [0, 0], [-1, 0], [0, -1]), table([0, 0], [0, 0], [5, 0], [0, 0]))
        self.assertEqual([is_full(one, k) for k in range(4)], [True, True, False, False])
        self.assertEqual([never_helps(one), helped(one)], [True, None])
        two = (one[0], table([0, 0], [0, 0], [0, 7], [0, 0]))
        self.assertEqual([never_helps(two), helped(two), helps(two, (NIL, ONE))], [False, (HALF, HALF), False])
        edge = (table([0, 0], [-1, 0]), table([0, 0], [0, 1]))
        self.assertEqual([is_full(edge, 1), helped(edge), gain(edge, (HALF, HALF))], [False, (HALF, HALF), HALF])
        less = (edge[0], table([0, 0], [0, -1]))
        self.assertEqual([never_helps(less), helped(less)], [True, None])

    def test_the_least_action(self):
        setting = (table([1, 0], [0, 1], ["3/4", "3/4"]), table([0, 0], [0, 0], [1, 1]))
        self.assertEqual(helped(setting), row("7/8", "1/8"))
        self.assertEqual(helped(swapped(setting, (1, 0, 2))), row("1/8", "7/8"))
        self.assertEqual(helped(swapped(setting, (2, 1, 0))), row("1/8", "7/8"))
        self.assertIs(helps(setting, (HALF, HALF)), False)

    def test_by_name(self):
        self.assertEqual(gain(prior=PRIOR, setting=COURT), (3, 5))
        self.assertIs(helps(prior=PRIOR, setting=COURT), True)
        self.assertIs(never_helps(setting=COURT), False)
        self.assertEqual(helped(setting=COURT), ((3, 4), (1, 4)))

    def test_just_so(self):
        tiny = Fraction(1, GREAT)
        near = row(Fraction(1, 2) + tiny, Fraction(1, 2) - tiny)
        self.assertEqual([helps(COURT, near), helps(COURT, (HALF, HALF))], [True, False])
        self.assertEqual(gain(COURT, near), pair(1 - 2 * tiny))
        self.assertEqual([never_helps(IDLE), helped(IDLE)], [False, ((3, 4), (1, 4))])


class AllToldTest(GivenCase):
    def test_against_the_words(self):
        chance, told = random.Random(127), []
        for setting in settings_for(128, 60):
            plane = told_plane(setting)
            wrong = [b for b in corners_of(setting) if value_at(setting, b) > at(plane, b)]
            told.append(not wrong)
            self.assertEqual(all_told(setting), plane)
            self.assertIs(is_all_best(setting), not wrong)
            self.assertEqual(against_all(setting), wrong[0] if wrong else None)
            for prior in priors_for(chance, len(plane), 2):
                best = at(plane, prior) == number_of(roof_at(setting, prior))
                self.assertIs(all_best_at(setting, prior), best)
                if min(numbers(prior)) > 0:
                    self.assertIs(best, not wrong)
        self.assertGreater(min(told.count(True), told.count(False)), 30)

    def test_same_interests(self):
        for setting in near_settings(129, 30) + random_settings(130, 30):
            friend = with_worths(setting, "friend")
            self.assertIs(is_all_best(friend), True)
            self.assertIsNone(against_all(friend))
            self.assertEqual(roof(friend), (all_told(friend),))

    def test_priors_with_chances_of_nothing(self):
        chance, told = random.Random(131), []
        for setting in settings_for(132, 30):
            states = len(setting[0][0])
            for prior in priors_for(chance, states, 4):
                where = [s for s in range(states) if prior[s] != NIL]
                best = all_best_at(setting, prior)
                told.append((best, len(where) < states))
                if best:
                    for belief in grid(states, 4):
                        if all(belief[s] == NIL for s in range(states) if s not in where):
                            self.assertIs(all_best_at(setting, belief), True)
        self.assertTrue(all(told.count(kind) > 10 for kind in ((True, True), (False, True), (True, False))))

    def test_sure_priors(self):
        for setting in settings_for(133, 15):
            for belief in grid(len(setting[0][0]), 1):
                self.assertIs(all_best_at(setting, belief), True)

    def test_by_hand(self):
        # The sender hides which of the last two states it is, and nothing else.
        setting = (table([1, 0, 0], [0, 1, 0], [0, 0, 1], [0, "2/3", "2/3"]), table([1] * 3, [0] * 3, [0] * 3, [1] * 3))
        self.assertEqual(all_told(setting), row(1, 0, 0))
        self.assertEqual([all_best_at(setting, row("1/2", "1/2", 0)), is_all_best(setting)], [False, False])
        self.assertEqual([all_best_at(setting, row(0, 0, 1)), all_best_at(setting, row(0, 1, 0))], [True, True])
        self.assertEqual(all_best_at(setting, row(0, "1/2", "1/2")), False)
        mute = (table([1, 0, 0], [0, 1, 1]), table([0, 0, 0], [0, 1, 0]))
        told = [all_best_at(mute, row(*b)) for b in ((0, "1/2", "1/2"), ("1/2", 0, "1/2"), ("1/2", "1/2", 0))]
        self.assertEqual(told, [True, True, True])
        self.assertEqual(is_all_best(mute), True)

    def test_by_name(self):
        self.assertEqual(all_told(setting=COURT), (NIL, ONE))
        self.assertIs(is_all_best(setting=FRIEND), True)
        self.assertIs(all_best_at(prior=PRIOR, setting=COURT), False)
        self.assertEqual(against_all(setting=COURT), (HALF, HALF))

    def test_great_numbers(self):
        setting = (((pair(GREAT), NIL), (NIL, (1, GREAT))), ((NIL, NIL), (pair(GREAT), (1, GREAT))))
        self.assertEqual(all_told(setting), (NIL, (1, GREAT)))
        self.assertEqual(against_all(setting), corners_of(setting)[1])
        self.assertIs(all_best_at(setting, (NIL, ONE)), True)
        just = (setting[0], (row(0, 0), row(-GREAT, Fraction(1, GREAT))))
        self.assertIs(is_all_best(just), True)
        over = (setting[0], (row(0, 0), row(-GREAT + 3, Fraction(1, GREAT))))
        self.assertIs(is_all_best(over), is_above_by_corners(over, told_plane(over)))


class WhatStaysTest(GivenCase):
    def test_where_telling_helps(self):
        chance = random.Random(134)
        for setting in settings_for(135, 30):
            pays, worths = setting
            states = len(pays[0])
            added = [chance.randint(-4, 4) for _ in range(states)]
            factor = Fraction(chance.randint(1, 9), chance.randint(1, 9))

            def more(side):
                return tuple(row(*[factor * x + y for x, y in zip(numbers(told), added)]) for told in side)

            for other in ((more(pays), worths), (pays, more(worths))):
                self.assertEqual(helped(other), helped(setting))
                self.assertEqual(against_all(other), against_all(setting))
                for prior in priors_for(chance, states, 1):
                    self.assertIs(helps(other, prior), helps(setting, prior))
                    self.assertIs(all_best_at(other, prior), all_best_at(setting, prior))


class ErrorsTest(GivenCase):
    told = {
        "setting": (InvalidSetting, WRONG_SETTINGS), "prior": (InvalidBelief, list(WRONG_BELIEFS) + anything()),
    }

    def test_errors(self):
        for call in (gain, helps, all_best_at):
            self.assert_errors(call, {"setting": COURT, "prior": PRIOR}, self.told)
        for call in (never_helps, helped, all_told, is_all_best, against_all):
            self.assert_errors(call, {"setting": COURT}, self.told)

    def test_nothing_is_changed(self):
        given = as_lists(COURT)
        self.assert_given(InvalidSetting, given, never_helps, given)
        self.assertEqual(given, as_lists(COURT))
        self.assertEqual(never_helps(plain_setting(4, 5)), True)

    def test_interface(self):
        self.assert_interface(telling, {
            "gain": "setting prior", "helps": "setting prior", "never_helps": "setting", "helped": "setting",
            "all_told": "setting", "is_all_best": "setting", "all_best_at": "setting prior", "against_all": "setting",
        })


if __name__ == "__main__":
    unittest.main()
