import unittest
from fractions import Fraction
from math import floor

from persuasion import pictures
from persuasion.cells import is_full
from persuasion.errors import InvalidNumber, InvalidSetting, Unfit
from persuasion.pictures import drawing, gains, strip, triangle
from persuasion.settings import choice
from persuasion.telling import helps
from samples import (
    COURT, IDLE, NIL, ONE, WRONG_SETTINGS, GivenCase, Odd, anything, as_lists, at, corners_by_equations,
    corners_of, is_best, near_settings, numbers, plain_setting, rank, random_settings, roof_by_search, row, table,
    value_at, with_worths,
)

MOST = {2: 60, 3: 12}


def settings_of(states, seed, many):
    found = random_settings(seed, many) + near_settings(seed + 1, many)
    return [setting for setting in found if len(setting[0][0]) == states]


def choice_by_words(setting, belief):
    """The least best action that has the value, from the words of point 7."""
    number = value_at(setting, belief)
    return min(
        k for k in range(len(setting[0])) if is_best(setting, k, belief) and at(setting[1][k], belief) == number
    )


def beliefs_of(states, many):
    """The beliefs of a picture, in rows, from the words of point 29."""
    if states == 2:
        return [[row(Fraction(many - k, many), Fraction(k, many)) for k in range(many + 1)]]
    return [
        [row(Fraction(many - i - j, many), Fraction(i, many), Fraction(j, many)) for i in range(many - j + 1)]
        for j in range(many + 1)
    ]


def drawing_by_words(setting):
    """The drawing, from the words of point 29."""
    lines = []
    for action in range(len(setting[0])):
        cell = corners_by_equations(setting, action)
        if rank(cell) == 2:
            cell = sorted(cell, key=lambda belief: numbers(belief)[1])
            lines.append([(numbers(belief)[1], at(setting[1][action], belief)) for belief in cell])
    found = sorted(corners_of(setting), key=lambda belief: numbers(belief)[1])
    roof = [(numbers(belief)[1], roof_by_search(setting, belief)) for belief in found]
    drawn = [number for points in lines + [roof] for _, number in points]
    low, high = min(drawn), max(drawn)

    def spot(point):
        across, number = point
        y = 200 if low == high else 200 - floor(200 * (number - low) / (high - low))
        return floor(300 * across), y
    out = ['<svg xmlns="http://www.w3.org/2000/svg" viewBox="0 0 300 200">']
    for points in lines:
        (a, b), (c, d) = map(spot, points)
        out.append(f'<line x1="{a}" y1="{b}" x2="{c}" y2="{d}"/>')
    out.append('<polyline points="' + " ".join("%d,%d" % spot(point) for point in roof) + '"/>')
    return "\n".join(out + ["</svg>"])


class StripTest(GivenCase):
    def test_against_choices(self):
        for k, setting in enumerate(settings_of(2, 401, 30) + [COURT, IDLE]):
            for many in (1, 2, 3, 4, 7, 12, 1 + k % 60):
                told = strip(setting, many)
                self.assertEqual(told, "".join(str(choice(setting, belief)) for belief in beliefs_of(2, many)[0]))
                self.assertEqual(strip(many=many, setting=setting), told)

    def test_against_the_words(self):
        for setting in settings_of(2, 403, 15):
            for many in (6, 8):
                told = [int(sign) for sign in strip(setting, many)]
                self.assertEqual(told, [choice_by_words(setting, belief) for belief in beliefs_of(2, many)[0]])

    def test_all_numbers_that_are_let(self):
        for many in range(1, 61):
            told = strip(COURT, many)
            self.assertEqual(told, "".join("1" if 2 * k >= many else "0" for k in range(many + 1)))
            self.assertEqual(gains(COURT, many), "".join("+" if 0 < 2 * k < many else "." for k in range(many + 1)))

    def test_by_hand(self):
        self.assertEqual([strip(COURT, 10), strip(COURT, 4), strip(COURT, 1)], ["00000111111", "00111", "01"])
        self.assertEqual(strip(plain_setting(2, 5), 3), "0000")
        more = (table([0, 0]) * 5, table([0, 0], [0, 0], [1, 0], [1, 1], [0, 1]))
        self.assertEqual(strip(more, 2), "233")


class TriangleTest(GivenCase):
    def test_against_choices(self):
        for k, setting in enumerate(settings_of(3, 405, 30)):
            for many in (1, 2, 3, 4, 1 + k % 12):
                told = triangle(setting, many)
                rows = ["".join(str(choice(setting, belief)) for belief in part) for part in beliefs_of(3, many)]
                self.assertEqual(told, "\n".join(rows))
                self.assertEqual(triangle(many=many, setting=setting), told)
                self.assertEqual([len(part) for part in told.split("\n")], list(range(many + 1, 0, -1)))

    def test_against_the_words(self):
        for setting in settings_of(3, 407, 9):
            rows = [[choice_by_words(setting, belief) for belief in part] for part in beliefs_of(3, 3)]
            self.assertEqual(triangle(setting, 3), "\n".join("".join(map(str, part)) for part in rows))

    def test_by_hand(self):
        guess = (table([1, 0, 0], [0, 1, 0], [0, 0, 1]), table([0] * 3, [0] * 3, [0] * 3))
        self.assertEqual(triangle(guess, 1), "01\n2")
        self.assertEqual(triangle(guess, 2), "001\n01\n2")
        self.assertEqual(triangle(guess, 4), "00011\n0011\n021\n22\n2")
        self.assertEqual(triangle(plain_setting(3), 12), "\n".join("0" * many for many in range(13, 0, -1)))


class GainsTest(GivenCase):
    def test_against_helps(self):
        told = ""
        for states, seed in ((2, 409), (3, 411)):
            for setting in settings_of(states, seed, 30):
                for many in (1, 2, 5):
                    rows = beliefs_of(states, many)
                    signs = ["".join("+" if helps(setting, belief) else "." for belief in part) for part in rows]
                    self.assertEqual(gains(setting, many), "\n".join(signs))
                    self.assertEqual(gains(many=many, setting=setting), "\n".join(signs))
                    told += gains(setting, many)
        self.assertGreater(min(told.count("+"), told.count(".")), 100)

    def test_against_the_words(self):
        for states, seed, many in ((2, 413, 6), (3, 415, 3)):
            for setting in settings_of(states, seed, 9):
                rows = beliefs_of(states, many)
                signs = [
                    "".join("+" if roof_by_search(setting, b) > value_at(setting, b) else "." for b in part)
                    for part in rows
                ]
                self.assertEqual(gains(setting, many), "\n".join(signs))

    def test_the_greatest_numbers(self):
        self.assertEqual(len(gains(COURT, 60)), 61)
        self.assertEqual([len(part) for part in gains(plain_setting(3), 12).split("\n")], list(range(13, 0, -1)))
        for setting in settings_of(3, 417, 4):
            rows = beliefs_of(3, 12)
            signs = ["".join("+" if helps(setting, belief) else "." for belief in part) for part in rows]
            self.assertEqual(gains(setting, 12), "\n".join(signs))


class DrawingTest(GivenCase):
    def test_against_the_words(self):
        counts = []
        for setting in settings_of(2, 419, 60) + [COURT, IDLE, with_worths(COURT, "friend"), with_worths(COURT, "foe")]:
            told = drawing(setting)
            self.assertEqual(told, drawing_by_words(setting))
            self.assertEqual(drawing(setting=setting), told)
            counts.append(told.count("<line"))
            self.assertEqual(counts[-1], sum(is_full(setting, k) for k in range(len(setting[0]))))
        self.assertTrue({1, 2, 3} <= set(counts))

    def test_one_full_cell(self):
        self.assertEqual(drawing((table([0, 0]), table([1, 3]))), "\n".join([
            '<svg xmlns="http://www.w3.org/2000/svg" viewBox="0 0 300 200">',
            '<line x1="0" y1="200" x2="300" y2="0"/>', '<polyline points="0,200 300,0"/>', "</svg>",
        ]))

    def test_all_numbers_alike(self):
        for number in (0, -7, Fraction(1, 3)):
            setting = (COURT[0], table([number] * 2, [number] * 2))
            self.assertEqual(drawing(setting).split("\n")[1:], [
                '<line x1="0" y1="200" x2="150" y2="200"/>', '<line x1="150" y1="200" x2="300" y2="200"/>',
                '<polyline points="0,200 150,200 300,200"/>', "</svg>",
            ])

    def test_actions_never_best_are_not_drawn(self):
        told = drawing(IDLE)
        self.assertEqual(told.count("<line"), 2)
        self.assertEqual(told, drawing_by_words(IDLE))

    def test_actions_that_pay_alike_are_drawn_each(self):
        setting = (table([1, 1], [1, 1]), table([0, 1], [3, 0]))
        self.assertEqual(drawing(setting).split("\n")[1:], [
            '<line x1="0" y1="200" x2="300" y2="134"/>', '<line x1="0" y1="0" x2="300" y2="200"/>',
            '<polyline points="0,0 300,134"/>', "</svg>",
        ])

    def test_numbers_below_nothing_are_rounded_down(self):
        # Numbers between the least and the greatest one, at two thirds and at one third of the way.
        setting = (table([2, 0], [0, 1]), table([-3, -1], [-2, 0]))
        told = drawing(setting)
        self.assertEqual(told, drawing_by_words(setting))
        self.assertIn('<line x1="0" y1="200" x2="200" y2="112"/>', told)
        self.assertIn('<line x1="200" y1="45" x2="300" y2="0"/>', told)

    def test_great_numbers(self):
        great = 10 ** 300 + 7
        setting = (table([1, 0], [0, great]), table([-great, 1], [0, great]))
        self.assertEqual(drawing(setting), drawing_by_words(setting))
        near = (table([great, 0], [0, 1]), table([0, 0], [1, 1]))
        self.assertIn('points="0,200 299,0 300,0"', drawing(near))


class ErrorsTest(GivenCase):
    wrong_numbers = (0, -1, True, False, None, "3", "", (3,), NIL, ONE, [3], 10 ** 500, -10 ** 500, Odd(), b"3", 3j, ())

    def test_settings(self):
        told = {"setting": (InvalidSetting, WRONG_SETTINGS)}
        for call in (strip, triangle, gains):
            self.assert_errors(call, {"setting": plain_setting(3) if call is triangle else COURT, "many": 3}, told)
        self.assert_errors(drawing, {"setting": COURT}, told)

    def test_other_numbers_of_states_ahead_of_many(self):
        for call, counts in ((strip, (3, 4)), (triangle, (2, 4)), (gains, (4,))):
            for states in counts:
                for many in (3, 0, 61, None, Odd(), True):
                    self.assert_told(Unfit, "given", states, call, plain_setting(states, 2), many)
                    self.assert_told(Unfit, "given", states, call, many=many, setting=plain_setting(states, 2))
        for states in (3, 4):
            self.assert_told(Unfit, "given", states, drawing, plain_setting(states))
            self.assert_told(Unfit, "given", states, drawing, setting=plain_setting(states))

    def test_wrong_numbers(self):
        for call, states in ((strip, 2), (gains, 2), (triangle, 3), (gains, 3)):
            setting = plain_setting(states)
            for many in range(-2, 70):
                if 1 <= many <= MOST[states]:
                    self.assertEqual(len(call(setting, many).split("\n")), 1 if states == 2 else many + 1)
                else:
                    self.assert_told(InvalidNumber, "given", many, call, setting, many)
            for wrong in list(self.wrong_numbers) + [thing for thing in anything() if not isinstance(thing, int)]:
                self.assert_given(InvalidNumber, wrong, call, setting, wrong)
                self.assert_given(InvalidNumber, wrong, call, many=wrong, setting=setting)

    def test_of_two_wrong_ones_the_first(self):
        for call in (strip, triangle, gains):
            self.assert_given(InvalidSetting, None, call, None, None)

    def test_nothing_is_changed(self):
        given = as_lists(COURT)
        self.assert_given(InvalidSetting, given, drawing, given)
        self.assertEqual(given, as_lists(COURT))
        self.assertEqual(drawing(COURT), drawing(COURT))

    def test_interface(self):
        self.assert_interface(pictures, {
            "strip": "setting many", "triangle": "setting many", "gains": "setting many", "drawing": "setting",
        })


if __name__ == "__main__":
    unittest.main()
