import random
import unittest
from fractions import Fraction
from itertools import combinations

from persuasion import roofs
from persuasion.errors import InvalidBelief, InvalidSetting
from persuasion.planes import is_above
from persuasion.programs import bar_to
from persuasion.roofs import best_split, fewest, lead, least_plane, pays_within, roof, roof_at, short_split
from samples import (
    COURT, IDLE, NIL, ONE, PRIOR, WRONG_BELIEFS, WRONG_SETTINGS, GivenCase, anything, as_lists, at,
    corners_by_equations, corners_of, is_row_of, is_split_by_sums, near_settings, number_of, numbers, only_answer, pair,
    plain_setting, planes_by_search, priors_for, random_settings, rank, roof_by_search, row, swapped, table, value_at,
    with_worths,
)

GREAT = 10 ** 399 + 7
FRIEND, FOE = with_worths(COURT, "friend"), with_worths(COURT, "foe")


def settings_for(seed, many):
    """Random settings, such with full cells, and some with same and opposite interests, of all sizes."""
    near = near_settings(seed, many)
    kinds = [with_worths(setting, kind) for setting, kind in zip(near, ("friend", "foe") * 8)]
    return random_settings(seed, many) + near + kinds


def not_too_many(settings):
    """Those whose lots of corners are soon searched."""
    return [setting for setting in settings if len(setting[0][0]) < 4 or len(corners_of(setting)) < 14]


def worth_by_sums(setting, split):
    return sum(number_of(weight) * value_at(setting, belief) for weight, belief in split)


def is_above_by_corners(setting, plane):
    return all(at(plane, belief) >= value_at(setting, belief) for belief in corners_of(setting))


def moved(setting, added=None, factor=1, side=1):
    """The setting with PAYS (side 0) or WORTHS (side 1) times a number, and with a row more."""
    added = added or [0] * len(setting[0][0])
    changed = tuple(row(*[factor * x + y for x, y in zip(numbers(told), added)]) for told in setting[side])
    return (changed, setting[1]) if side == 0 else (setting[0], changed)


class RoofCase(GivenCase):
    def assert_best(self, setting, prior, split):
        """A best split: one of the prior, with the worth of some plane above at it."""
        self.assertTrue(is_split_by_sums(prior, split))
        plane = least_plane(setting, prior)
        self.assertTrue(is_above_by_corners(setting, plane))
        self.assertEqual(worth_by_sums(setting, split), at(plane, prior))


class BothSidesTest(RoofCase):
    def test_they_meet(self):
        chance = random.Random(91)
        for setting in settings_for(92, 30):
            states, corners = len(setting[0][0]), corners_of(setting)
            for prior in priors_for(chance, states, 2):
                split, plane = best_split(setting, prior), least_plane(setting, prior)
                self.assertTrue(is_row_of(plane, states))
                self.assert_best(setting, prior, split)
                self.assertLessEqual(len(split), states)
                self.assertTrue(all(belief in corners for _, belief in split))
                self.assertEqual(roof_at(setting, prior), pair(at(plane, prior)))
                self.assertIs(is_above(setting, plane), True)
                # So the plane has the value for its height at each belief of the split.
                self.assertTrue(all(at(plane, b) == value_at(setting, b) for _, b in split))

    def test_sure_priors(self):
        for setting in settings_for(93, 15):
            states = len(setting[0][0])
            for state in range(states):
                sure = row(*[int(k == state) for k in range(states)])
                self.assertEqual(roof_at(setting, sure), pair(value_at(setting, sure)))
                self.assertEqual(best_split(setting, sure), ((ONE, sure),))
                self.assertEqual([fewest(setting, sure), short_split(setting, sure)], [1, ((ONE, sure),)])

    def test_corners_as_priors(self):
        for setting in not_too_many(settings_for(94, 15)):
            for corner in corners_of(setting):
                self.assertEqual(roof_at(setting, corner), pair(roof_by_search(setting, corner)))

    def test_by_name(self):
        self.assertEqual(roof_at(prior=PRIOR, setting=COURT), (3, 5))
        self.assert_best(COURT, PRIOR, best_split(prior=PRIOR, setting=COURT))
        self.assertEqual(at(least_plane(prior=PRIOR, setting=COURT), PRIOR), Fraction(3, 5))
        self.assertEqual(roof(setting=COURT), (row(0, 2), row(1, 1)))
        self.assertEqual(lead(other=COURT, setting=FRIEND), (ONE, (ONE, NIL)))
        self.assertEqual(fewest(prior=PRIOR, setting=COURT), 2)
        self.assert_best(COURT, PRIOR, short_split(prior=PRIOR, setting=COURT))
        self.assertEqual(pays_within(prior=PRIOR, setting=COURT), ((7, 10), (7, 10)))

    def test_great_numbers(self):
        setting = (((pair(GREAT), NIL), (NIL, (1, GREAT))), ((NIL, NIL), (pair(GREAT), (1, GREAT))))
        for prior in (PRIOR, ((1, GREAT), (GREAT - 1, GREAT))):
            self.assert_best(setting, prior, best_split(setting, prior))
            self.assert_best(setting, prior, short_split(setting, prior))
            self.assertEqual(number_of(roof_at(setting, prior)), roof_by_search(setting, prior))
        self.assertEqual(roof(setting), planes_by_search(setting))
        self.assertEqual(lead(setting, setting)[0], NIL)


class PlanesTest(RoofCase):
    def test_an_own_search(self):
        for setting in not_too_many(settings_for(95, 45)):
            self.assertEqual(roof(setting), planes_by_search(setting))

    def test_what_they_are(self):
        for setting in settings_for(96, 30):
            told, corners = roof(setting), corners_of(setting)
            states = len(setting[0][0])
            self.assertEqual([numbers(plane) for plane in told], sorted(numbers(plane) for plane in told))
            self.assertEqual(len(set(told)), len(told))
            for plane in told:
                self.assertTrue(is_row_of(plane, states))
                self.assertTrue(is_above_by_corners(setting, plane))
                met = [corner for corner in corners if at(plane, corner) == value_at(setting, corner)]
                self.assertEqual(rank(met), states)
                middle = row(*[sum(numbers(b)[s] for b in met) / len(met) for s in range(states)])
                height = at(plane, middle)
                self.assertTrue(all(at(other, middle) > height for other in told if other != plane))
                self.assertEqual(number_of(roof_at(setting, middle)), height)

    def test_the_least_height_is_the_roof(self):
        chance = random.Random(97)
        for setting in settings_for(98, 30):
            told = roof(setting)
            for prior in priors_for(chance, len(setting[0][0]), 3):
                self.assertEqual(number_of(roof_at(setting, prior)), min(at(plane, prior) for plane in told))

    def test_by_hand(self):
        self.assertEqual(roof(plain_setting(3)), (row(0, 0, 0),))
        self.assertEqual(roof((table([1, 2, 3, 4]), table([3, 1, 4, 1]))), (row(3, 1, 4, 1),))
        self.assertEqual([roof(COURT), roof(IDLE)], [(row(0, 2), row(1, 1)), (row(0, 2), row(1, 1))])
        guess = (table([1, 0, 0], [0, 1, 0], [0, 0, 1]), table([0, 0, 0], [1, 1, 1], [1, 1, 1]))
        self.assertEqual(roof(guess), (row(0, 2, 2), row(1, 1, 1)))


class LeadTest(RoofCase):
    def test_against_the_words(self):
        chance = random.Random(99)
        settings = not_too_many(settings_for(100, 30))
        for setting in settings:
            states = len(setting[0][0])
            other = chance.choice([one for one in settings if len(one[0][0]) == states])
            corners = corners_of(setting)
            leads = [value_at(setting, corner) - roof_by_search(other, corner) for corner in corners]
            self.assertEqual(lead(setting, other), (pair(max(leads)), corners[leads.index(max(leads))]))
            for prior in priors_for(chance, states, 2):
                less = number_of(roof_at(setting, prior)) - number_of(roof_at(other, prior))
                self.assertLessEqual(less, max(leads))
            alike = lead(setting, other)[0][0] <= 0 and lead(other, setting)[0][0] <= 0
            self.assertIs(alike, roof(setting) == roof(other))

    def test_before_itself_and_its_like(self):
        chance = random.Random(101)
        for setting in settings_for(102, 15):
            order = chance.sample(range(len(setting[0])), len(setting[0]))
            paid = moved(setting, [3, -1, 2, 5][:len(setting[0][0])], Fraction(5, 3), 0)
            for other in (setting, swapped(setting, order), paid):
                number, corner = lead(setting, other)
                self.assertEqual(number, NIL)
                met = [b for b in corners_of(setting) if number_of(roof_at(setting, b)) == value_at(setting, b)]
                self.assertEqual(corner, met[0])
                self.assertEqual(roof(other), roof(setting))

    def test_with_other_worths(self):
        for setting in settings_for(103, 15):
            states = len(setting[0][0])
            more = moved(setting, [1] * states)
            self.assertEqual([lead(more, setting)[0], lead(setting, more)[0]], [ONE, (-1, 1)])
            one = moved(setting, [1] + [0] * (states - 1))
            self.assertEqual([lead(one, setting)[0], lead(setting, one)[0]], [ONE, NIL])
            self.assertEqual(lead(one, setting)[1], row(*[int(k == 0) for k in range(states)]))

    def test_one_roof_of_two_settings(self):
        # What is told by a friend is what is there if one action is worth the plane.
        flat = (table([0, 0]), table([1, 1]))
        self.assertEqual([roof(FRIEND), roof(flat)], [(row(1, 1),), (row(1, 1),)])
        self.assertEqual([lead(FRIEND, flat), lead(flat, FRIEND)], [(NIL, (NIL, ONE)), (NIL, (NIL, ONE))])


class FewestTest(RoofCase):
    def faces(self, setting, prior):
        plane = least_plane(setting, prior)
        return [
            [b for b in corners_by_equations(setting, k) if at(setting[1][k], b) == at(plane, b)]
            for k in range(len(setting[0]))
        ]

    def test_by_trying(self):
        chance, told = random.Random(104), []
        for setting in settings_for(105, 30):
            states = len(setting[0][0])
            for prior in priors_for(chance, states, 2):
                split, many = short_split(setting, prior), fewest(setting, prior)
                self.assert_best(setting, prior, split)
                self.assertEqual(len(split), many)
                self.assertLessEqual(many, min(states, len(setting[0]), len(best_split(setting, prior))))
                told.append(many)
                # Each belief of a best split lies on one face: no lot of fewer faces has the prior within it.
                for chosen in combinations(self.faces(setting, prior), many - 1):
                    points = [corner for face in chosen for corner in face]
                    bar = bar_to(points, prior)
                    self.assertGreater(at(bar, prior), 0)
                    self.assertTrue(all(at(bar, point) <= 0 for point in points))
        self.assertTrue(all(told.count(many) > 5 for many in (1, 2, 3)))

    def test_one_exactly_if_the_prior_has_the_roof(self):
        chance = random.Random(106)
        for setting in settings_for(107, 45):
            for prior in priors_for(chance, len(setting[0][0]), 2):
                there = number_of(roof_at(setting, prior)) == value_at(setting, prior)
                self.assertIs(fewest(setting, prior) == 1, there)

    def test_by_hand(self):
        guess = (table([1, 0, 0], [0, 1, 0], [0, 0, 1]), table([1, 0, 0], [0, 1, 0], [0, 0, 1]))
        self.assertEqual(fewest(guess, row("1/3", "1/3", "1/3")), 3)
        self.assertEqual(fewest(guess, row("1/2", "1/2", 0)), 2)
        # Two of three states call for one action, so two beliefs are enough.
        pairs = (table([1, 1, 0], [0, 0, 1]), table([1, 1, 0], [0, 0, 1]))
        self.assertEqual(fewest(pairs, row("1/3", "1/3", "1/3")), 2)
        self.assertEqual(short_split(pairs, row("1/4", "1/2", "1/4")), (
            ((1, 4), row(0, 0, 1)), ((3, 4), row("1/3", "2/3", 0)),
        ))
        self.assertEqual(fewest(plain_setting(4), row("1/4", "1/4", "1/4", "1/4")), 1)
        four = tuple(table(*[[int(k == s) for k in range(4)] for s in range(4)]) for _ in range(2))
        self.assertEqual(fewest(four, row("1/4", "1/4", "1/4", "1/4")), 4)


class PaysTest(RoofCase):
    def pays_by_trying(self, setting, prior):
        """The least and the greatest pay of best splits into corners that have no fewer of them to go by."""
        states, plane = len(prior), least_plane(setting, prior)
        on = [b for b in corners_of(setting) if at(plane, b) == value_at(setting, b)]
        out = []
        for chosen in combinations(on, min(states, len(on))):
            base = list(chosen)
            if len(base) == states:
                weights = only_answer([
                    [numbers(b)[s] for b in base] + [number_of(prior[s])] for s in range(states)
                ])
                if weights is not None and min(weights) >= 0:
                    pays = [max(at(told, b) for told in setting[0]) for b in base]
                    out.append(sum(w * x for w, x in zip(weights, pays)))
        return out

    def test_by_trying(self):
        chance, wide, tried = random.Random(108), 0, 0
        careless = [moved(setting, factor=0) for setting in near_settings(109, 30)]
        for setting in not_too_many(settings_for(109, 15) + careless):
            for prior in priors_for(chance, len(setting[0][0]), 2):
                least, most = pays_within(setting, prior)
                self.assertLessEqual(number_of(least), number_of(most))
                pays = self.pays_by_trying(setting, prior)
                plane = least_plane(setting, prior)
                on = [b for b in corners_of(setting) if at(plane, b) == value_at(setting, b)]
                if rank(on) == len(prior):
                    tried += 1
                    self.assertEqual((number_of(least), number_of(most)), (min(pays), max(pays)))
                for split in (best_split(setting, prior), short_split(setting, prior)):
                    mean = sum(number_of(w) * max(at(told, b) for told in setting[0]) for w, b in split)
                    self.assertTrue(number_of(least) <= mean <= number_of(most))
                self.assertGreaterEqual(number_of(least), max(at(told, prior) for told in setting[0]))
                wide += least != most
        self.assertGreater(min(wide, tried), 20)

    def test_by_hand(self):
        # The sender does not care: the receiver may learn all, or nothing.
        careless = (COURT[0], table([0, 0], [0, 0]))
        self.assertEqual(pays_within(careless, PRIOR), ((7, 10), ONE))
        self.assertEqual(pays_within(FRIEND, PRIOR), (ONE, ONE))
        self.assertEqual(pays_within(FOE, PRIOR), ((7, 10), (7, 10)))
        self.assertEqual(pays_within(plain_setting(3), row("1/2", "1/2", 0)), (ONE, ONE))
        self.assertEqual(pays_within(careless, (NIL, ONE)), (ONE, ONE))


class WhatStaysTest(RoofCase):
    def test_worths_with_a_row_and_times_a_number(self):
        chance = random.Random(110)
        for setting in settings_for(111, 15):
            states = len(setting[0][0])
            added = [Fraction(chance.randint(-5, 5), 2) for _ in range(states)]
            factor = Fraction(chance.randint(1, 9), chance.randint(1, 9))
            other = moved(setting, added, factor)
            planes = [[factor * x + y for x, y in zip(numbers(plane), added)] for plane in roof(setting)]
            self.assertEqual([numbers(plane) for plane in roof(other)], planes)
            for prior in priors_for(chance, states, 1):
                number = factor * number_of(roof_at(setting, prior)) + at(row(*added), prior)
                self.assertEqual(roof_at(other, prior), pair(number))
                self.assertEqual(worth_by_sums(other, best_split(setting, prior)), number)
                self.assertEqual(fewest(other, prior), fewest(setting, prior))
                self.assertEqual(pays_within(other, prior), pays_within(setting, prior))

    def test_pays_with_a_row_and_times_a_number(self):
        chance = random.Random(112)
        for setting in settings_for(113, 30):
            states = len(setting[0][0])
            other = moved(setting, [chance.randint(-5, 5) for _ in range(states)], Fraction(7, 3), 0)
            self.assertEqual(roof(other), roof(setting))
            for prior in priors_for(chance, states, 1):
                self.assertEqual(fewest(other, prior), fewest(setting, prior))

    def test_an_action_without_a_cell(self):
        for setting in settings_for(114, 30):
            if len(setting[0]) < 5:
                low = row(*[min(number_of(told[s]) for told in setting[0]) - 1 for s in range(len(setting[0][0]))])
                other = (setting[0] + (low,), setting[1] + (row(*[99] * len(low)),))
                self.assertEqual([roof(other), lead(other, setting)[0]], [roof(setting), NIL])

    def test_greater_worths(self):
        chance = random.Random(115)
        for setting in settings_for(116, 30):
            states = len(setting[0][0])
            more = tuple(row(*[x + chance.randint(0, 2) for x in numbers(told)]) for told in setting[1])
            self.assertLessEqual(lead(setting, (setting[0], more))[0][0], 0)
            self.assertLessEqual(number_of(lead((setting[0], more), setting)[0]), 2)
            for prior in priors_for(chance, states, 1):
                gained = number_of(roof_at((setting[0], more), prior)) - number_of(roof_at(setting, prior))
                self.assertTrue(0 <= gained <= 2)

    def test_the_sum_of_two_tables(self):
        chance = random.Random(117)
        for setting in settings_for(118, 30):
            pays, worths = setting
            other = tuple(row(*[chance.randint(-3, 3) for _ in told]) for told in worths)
            both = tuple(row(*[x + y for x, y in zip(numbers(a), numbers(b))]) for a, b in zip(worths, other))
            for prior in priors_for(chance, len(pays[0]), 2):
                parts = number_of(roof_at(setting, prior)) + number_of(roof_at((pays, other), prior))
                self.assertLessEqual(number_of(roof_at((pays, both), prior)), parts)


class ErrorsTest(GivenCase):
    told = {
        "setting": (InvalidSetting, WRONG_SETTINGS), "prior": (InvalidBelief, list(WRONG_BELIEFS) + anything()),
        "other": (InvalidSetting, WRONG_SETTINGS + [plain_setting(3), plain_setting(4, 2)]),
    }

    def test_errors(self):
        for call in (roof_at, best_split, least_plane, fewest, short_split, pays_within):
            self.assert_errors(call, {"setting": COURT, "prior": PRIOR}, self.told)
        self.assert_errors(roof, {"setting": COURT}, self.told)
        self.assert_errors(lead, {"setting": COURT, "other": FOE}, self.told)
        self.assert_given(InvalidSetting, COURT, lead, plain_setting(3), COURT)
        self.assertEqual(lead(plain_setting(3), plain_setting(3, 5)), (NIL, row(0, 0, 1)))

    def test_nothing_is_changed(self):
        given = as_lists(COURT)
        self.assert_given(InvalidSetting, given, roof, given)
        self.assert_given(InvalidSetting, given, lead, COURT, given)
        self.assertEqual(given, as_lists(COURT))

    def test_equal_calls(self):
        for setting in settings_for(119, 15):
            prior = row(*[Fraction(1, len(setting[0][0]))] * len(setting[0][0]))
            for call in (roof_at, best_split, least_plane, short_split, pays_within):
                self.assertEqual(call(setting, prior), call(setting, prior))

    def test_interface(self):
        both = "setting prior"
        self.assert_interface(roofs, {
            "roof_at": both, "best_split": both, "least_plane": both, "roof": "setting", "lead": "setting other",
            "fewest": both, "short_split": both, "pays_within": both,
        })


if __name__ == "__main__":
    unittest.main()
