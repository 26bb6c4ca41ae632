import random
import unittest
from fractions import Fraction

from persuasion import planes
from persuasion.errors import InvalidBelief, InvalidPlane, InvalidSetting
from persuasion.planes import above_at, are_multipliers, height, is_above, multipliers
from samples import (
    COURT, HALF, LESS, NIL, ONE, PRIOR, WRONG_BELIEFS, WRONG_FRACTIONS, WRONG_SETTINGS, GivenCase, anything, as_lists,
    at, corners_of, grid, is_row_of, nested, number_of, numbers, pair, plain_setting, put, random_settings,
    row, table, value_at,
)

GREAT = 10 ** 399 + 7
STEEP = (NIL, (2, 1))
KNOWN = ((NIL, NIL), (ONE, NIL))


def is_above_by_corners(setting, plane):
    return all(at(plane, belief) >= value_at(setting, belief) for belief in corners_of(setting))


def hold(setting, plane, rows):
    """Whether rows are multipliers of a plane, worked out from the words of point 12."""
    pays, worths = [[numbers(told) for told in side] for side in setting]
    many, states = len(pays), len(pays[0])
    if type(rows) is not tuple or len(rows) != many or not all(is_row_of(told, many) for told in rows):
        return False
    mult = [numbers(told) for told in rows]
    return min(min(told) for told in mult) >= 0 and all(
        number_of(plane[s]) >= worths[a][s] + sum(mult[a][c] * (pays[a][s] - pays[c][s]) for c in range(many))
        for a in range(many) for s in range(states)
    )


def some_planes(chance, setting, many):
    """Planes high, low, and near to what is above: through values at corners, or lifted just so far."""
    states, corners = len(setting[0][0]), corners_of(setting)
    out = []
    for _ in range(many):
        plane = [Fraction(chance.randint(-4, 4), chance.randint(1, 3)) for _ in range(states)]
        lack = max(value_at(setting, belief) - at(row(*plane), belief) for belief in corners)
        just = [number + lack for number in plane]
        out.append(row(*plane))
        out.append(row(*just))
        k = chance.randrange(states)
        out.append(row(*[number - Fraction(int(j == k), 1000) for j, number in enumerate(just)]))
    return out


class WordsTest(GivenCase):
    def test_above(self):
        chance, told = random.Random(81), []
        for setting in random_settings(82, 90):
            for plane in some_planes(chance, setting, 2):
                above = is_above_by_corners(setting, plane)
                told.append(above)
                self.assertIs(is_above(setting, plane), above)
                wrong = [b for b in corners_of(setting) if value_at(setting, b) > at(plane, b)]
                self.assertEqual(above_at(setting, plane), wrong[0] if wrong else None)
                rows = multipliers(setting, plane)
                self.assertEqual(rows is not None, above)
                if above:
                    self.assertTrue(hold(setting, plane, rows))
                    self.assertIs(are_multipliers(setting, plane, rows), True)
        self.assertGreater(min(told.count(True), told.count(False)), 100)

    def test_from_the_value_on_everywhere(self):
        chance = random.Random(83)
        for setting in random_settings(84, 45):
            for plane in some_planes(chance, setting, 1):
                if is_above(setting, plane):
                    for belief in grid(len(plane), 5):
                        self.assertGreaterEqual(number_of(height(setting, plane, belief)), value_at(setting, belief))

    def test_height(self):
        chance = random.Random(85)
        for setting in random_settings(86, 45):
            for plane in some_planes(chance, setting, 1):
                for belief in grid(len(plane), 3):
                    self.assertEqual(height(setting, plane, belief), pair(at(plane, belief)))

    def test_moved_multipliers(self):
        chance, told = random.Random(87), []
        for setting in random_settings(88, 60):
            for plane in some_planes(chance, setting, 1)[1:2]:
                rows = multipliers(setting, plane)
                many = len(rows)
                for _ in range(6):
                    a, c = chance.randrange(many), chance.randrange(many)
                    step = chance.choice([-1, 1, Fraction(-1, 7), Fraction(1, 1000)])
                    moved = put(rows, (a, c), pair(number_of(rows[a][c]) + step))
                    told.append(hold(setting, plane, moved))
                    self.assertIs(are_multipliers(setting, plane, moved), told[-1])
                    lower = tuple(pair(number_of(x) - Fraction(1, 100)) for x in plane)
                    self.assertIs(are_multipliers(setting, lower, moved), hold(setting, lower, moved))
        self.assertGreater(min(told.count(True), told.count(False)), 40)

    def test_by_name(self):
        self.assertEqual(height(prior=PRIOR, plane=STEEP, setting=COURT), (3, 5))
        self.assertIs(is_above(plane=STEEP, setting=COURT), True)
        self.assertIsNone(above_at(plane=STEEP, setting=COURT))
        self.assertTrue(hold(COURT, STEEP, multipliers(plane=STEEP, setting=COURT)))
        self.assertIs(are_multipliers(value=KNOWN, plane=STEEP, setting=COURT), True)


class HandTest(GivenCase):
    def test_just_above_and_just_not(self):
        tiny = Fraction(1, GREAT)
        for plane in ((NIL, (2, 1)), (ONE, ONE), row("1/2", "3/2"), row(tiny, 2)):
            self.assertIs(is_above(COURT, plane), True)
        for plane in (row(-tiny, 2), row(0, 2 - tiny), row(1, 1 - tiny), row("1/2", 1), row(2, 0)):
            self.assertIs(is_above(COURT, plane), False)
            self.assertIsNone(multipliers(COURT, plane))
        self.assertEqual(above_at(COURT, row(0, 2 - tiny)), (HALF, HALF))
        self.assertEqual(above_at(COURT, row(-tiny, 3)), (ONE, NIL))
        self.assertEqual(above_at(COURT, row(2, 1 - tiny)), (NIL, ONE))

    def test_the_first_corner(self):
        self.assertEqual(above_at(COURT, row(-1, 0)), (NIL, ONE))
        self.assertEqual(above_at(COURT, row(-1, 1)), (HALF, HALF))
        self.assertEqual(above_at(COURT, row(-1, 3)), (ONE, NIL))

    def test_one_action(self):
        setting = (table([1, 2, 3]), table([0, 1, -1]))
        self.assertIs(is_above(setting, row(0, 1, -1)), True)
        self.assertTrue(hold(setting, row(0, 1, -1), multipliers(setting, row(0, 1, -1))))
        for k in range(3):
            lower = row(*[x - Fraction(int(j == k), 100) for j, x in enumerate((0, 1, -1))])
            self.assertEqual(above_at(setting, lower), row(*[int(j == k) for j in range(3)]))
            self.assertIsNone(multipliers(setting, lower))
        for number in (NIL, ONE, (5, 7)):
            self.assertIs(are_multipliers(setting, row(0, 1, -1), ((number,),)), True)

    def test_what_is_never_best_asks_for_nothing(self):
        setting = (table([1, 0], [0, 1], ["1/3", "1/3"]), table([0, 0], [0, 0], [100, 100]))
        rows = multipliers(setting, (NIL, NIL))
        self.assertTrue(hold(setting, (NIL, NIL), rows))
        self.assertIs(are_multipliers(setting, (NIL, NIL), put(rows, (2,), (NIL, NIL, NIL))), False)

    def test_actions_that_pay_alike(self):
        setting = (table([1, 0], [1, 0], [1, 0]), table([0, 2], [2, 0], [1, 1]))
        self.assertIs(is_above(setting, row(2, 2)), True)
        self.assertIs(is_above(setting, row(2, "3/2")), False)
        self.assertTrue(hold(setting, row(2, 2), multipliers(setting, row(2, 2))))

    def test_great_numbers(self):
        setting = (((pair(GREAT), NIL), (NIL, (1, GREAT))), (((NIL, NIL), (pair(GREAT), pair(GREAT)))))
        plane = (NIL, pair(number_of((GREAT, 1)) * (1 + Fraction(1, GREAT * GREAT))))
        self.assertIs(is_above(setting, plane), True)
        rows = multipliers(setting, plane)
        self.assertTrue(hold(setting, plane, rows))
        self.assertIs(are_multipliers(setting, plane, rows), True)
        under = (NIL, pair(number_of(plane[1]) - Fraction(1, GREAT ** 4)))
        self.assertIs(is_above(setting, under), False)
        self.assertIs(are_multipliers(setting, under, rows), False)


class AreMultipliersTest(GivenCase):
    def test_whatever_it_is(self):
        for thing in anything():
            for value in (thing, (thing, thing), ((thing, NIL), (ONE, NIL)), ((NIL, NIL), thing), (thing,)):
                self.assertIs(are_multipliers(COURT, STEEP, value), False)

    def test_wrong_fractions(self):
        for wrong in WRONG_FRACTIONS + [LESS, (-1, 1000)]:
            for path in ((0, 0), (0, 1), (1, 0), (1, 1)):
                self.assertIs(are_multipliers(COURT, STEEP, put(KNOWN, path, wrong)), False)

    def test_not_in_lowest_terms(self):
        for wrong in ((2, 2), (3, 3), (-1, -1), (True, True)):
            self.assertIs(are_multipliers(COURT, STEEP, put(KNOWN, (1, 0), wrong)), False)

    def test_other_sizes(self):
        for value in (
            KNOWN + KNOWN[:1], KNOWN[:1], (), ((NIL,), (ONE,)), ((NIL,) * 3, (ONE, NIL, NIL)), (KNOWN[0], (ONE,)),
            (KNOWN[0], (ONE, NIL, NIL)), KNOWN[1], list(KNOWN), as_lists(KNOWN), (KNOWN[0], [ONE, NIL]),
            put(KNOWN, (1, 0), [1, 1]), (KNOWN,), nested(tuple, 60),
        ):
            self.assertIs(are_multipliers(COURT, STEEP, value), False)

    def test_edges(self):
        # To convict asks 1 - x and 1 + x, with x times what it pays more than to acquit.
        more = row(0, "2001/1000")
        for plane, least, most in ((STEEP, 1, 1), (row("1/2", "3/2"), "1/2", "1/2"), (more, 1, "1001/1000")):
            for number in ("999/1000", 1, "2001/2000", "1001/1000", "1002/1000", "1/2", "499/1000", "501/1000", 0, 2):
                asked = put(KNOWN, (1, 0), pair(number))
                inside = Fraction(least) <= Fraction(number) <= Fraction(most)
                self.assertIs(are_multipliers(COURT, plane, asked), inside)
                self.assertIs(are_multipliers(COURT, (NIL, (1999, 1000)), asked), False)
        self.assertIs(are_multipliers(COURT, (ONE, ONE), put(KNOWN, (1, 0), NIL)), True)
        self.assertIs(are_multipliers(COURT, STEEP, put(KNOWN, (1, 1), (9, 1))), True)
        self.assertIs(are_multipliers(COURT, STEEP, put(KNOWN, (0, 0), (9, 1))), True)


class ErrorsTest(GivenCase):
    wrong_planes = anything() + [
        (ONE,), (ONE, NIL, NIL), [ONE, NIL], as_lists(STEEP), ((2, 2), NIL), (NIL, (True, 1)), (STEEP, STEEP), "ab",
    ] + [(wrong, ONE) for wrong in WRONG_FRACTIONS] + [(ONE, wrong) for wrong in WRONG_FRACTIONS]
    told = {
        "setting": (InvalidSetting, WRONG_SETTINGS), "plane": (InvalidPlane, wrong_planes),
        "prior": (InvalidBelief, list(WRONG_BELIEFS) + anything()),
    }

    def test_errors(self):
        good = {"setting": COURT, "plane": STEEP}
        self.assert_errors(height, {**good, "prior": PRIOR}, self.told)
        self.assert_errors(are_multipliers, {**good, "value": KNOWN}, self.told)
        for call in (is_above, above_at, multipliers):
            self.assert_errors(call, good, self.told)

    def test_any_row_is_a_plane(self):
        for states in (2, 3, 4):
            for number in (NIL, LESS, (10 ** 399, 3), (-1, 10 ** 399)):
                is_above(plain_setting(states), (number,) * states)
                short = (number,) * (states - 1)
                self.assert_given(InvalidPlane, short, is_above, plain_setting(states), short)

    def test_nothing_is_changed(self):
        given = as_lists(KNOWN)
        self.assertIs(are_multipliers(COURT, STEEP, given), False)
        self.assertEqual(given, as_lists(KNOWN))

    def test_interface(self):
        self.assert_interface(planes, {
            "height": "setting plane prior", "is_above": "setting plane", "above_at": "setting plane",
            "multipliers": "setting plane", "are_multipliers": "setting plane value",
        })


if __name__ == "__main__":
    unittest.main()
