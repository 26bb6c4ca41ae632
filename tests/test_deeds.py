import random
import unittest
from fractions import Fraction
from itertools import permutations, product

from persuasion import deeds
from persuasion.cells import never_best
from persuasion.deeds import any_pair, behind, fits, is_pair, leaves, led_pair, led_prior
from persuasion.errors import InvalidBelief, InvalidDeed, InvalidSetting, InvalidSplit
from persuasion.roofs import roof, roof_at
from persuasion.settings import choice, is_setting
from samples import (
    COURT, HALF, IDLE, LESS, NIL, ONE, PRIOR, THIRD, WRONG_BELIEFS, WRONG_SETTINGS, GivenCase, Odd,
    anything, as_lists, at, corners_of, near_settings, nested, number_of, pair, plain_setting, priors_for, put,
    random_settings, row, table, value_at,
)
from sheet_samples import (
    BEST, DEEDS, PAIR, behind_by_words, is_pair_by_sums, led_pair_by_words, led_row_by_words, random_deeds, wrong_deeds,
)

TINY = Fraction(1, 10 ** 30)
TWO = (2, 1)
def settings_for(seed, many):
    return random_settings(seed, many) + near_settings(seed + 1, many)


class FitsTest(GivenCase):
    def test_deeds_that_fit(self):
        chance = random.Random(311)
        for setting in settings_for(312, 60):
            for deed in random_deeds(chance, setting):
                self.assertIs(fits(setting, deed), True)
                self.assertIs(fits(value=deed, setting=setting), True)
        for deed in DEEDS:
            self.assertIs(fits(COURT, deed), True)

    def test_each_part_broken_alone(self):
        changes = [("keep", "p", PRIOR), ("drop", "start"), ("action", (ONE, ONE), (ONE, ONE), "name")]
        for wrong in wrong_deeds() + changes:
            self.assertIs(fits(COURT, wrong), False)
            self.assert_given(InvalidDeed, wrong, behind, COURT, wrong)

    def test_indexes_of_all_sizes(self):
        for states, actions in product((2, 3, 4), (1, 2, 3, 4, 5)):
            setting = plain_setting(states, actions)
            for k, s in product(range(-1, 7), repeat=2):
                is_so = 0 <= k < actions and 0 <= s < states
                for word in ("pay", "worth"):
                    self.assertIs(fits(setting, (word, k, s, ONE)), is_so)
                self.assertIs(fits(setting, ("strike", k)), 0 <= k < actions > 1)

    def test_rows_of_all_sizes(self):
        for states, actions in product((2, 3, 4), (1, 2, 3, 4, 5)):
            setting = plain_setting(states, actions)
            for many, other in product(range(6), repeat=2):
                deed = ("action", (ONE,) * many, (NIL,) * other)
                self.assertIs(fits(setting, deed), many == other == states and actions < 5)
                for word in ("scale", "lift"):
                    self.assertIs(fits(setting, (word, ONE, (ONE,) * many)), many == states)

    def test_orders_of_all_sizes(self):
        for states, actions in product((2, 3, 4), (1, 2, 3, 4, 5)):
            setting = plain_setting(states, actions)
            for many in range(6):
                for order in permutations(range(many)):
                    self.assertIs(fits(setting, ("order", order)), many == actions)
                    self.assertIs(fits(setting, ("states", order)), many == states)
                    if many > 1:
                        self.assertIs(fits(setting, ("order", order[:-1] + order[:1])), False)
                        self.assertIs(fits(setting, ("states", order[1:] + order[-1:])), False)

    def test_the_last_action_and_a_sixth_one(self):
        one, full = plain_setting(2), plain_setting(2, 5)
        self.assertIs(fits(one, ("strike", 0)), False)
        self.assertIs(fits(one, ("action", (ONE, ONE), (NIL, NIL))), True)
        self.assertIs(fits(full, ("action", (ONE, ONE), (NIL, NIL))), False)
        self.assertIs(fits(full, ("strike", 4)), True)

    def test_great_numbers(self):
        great = (10 ** 399, 7)
        for deed in (
            ("pay", 0, 0, great), ("worth", 1, 1, great), ("action", (great, NIL), (great, great)),
            ("scale", great, (great, great)), ("lift", great, (great, great)),
        ):
            self.assertIs(fits(COURT, deed), True)
            self.assertEqual(behind(COURT, deed), behind_by_words(COURT, deed))


class BehindTest(GivenCase):
    def test_by_the_words(self):
        chance = random.Random(313)
        for setting in settings_for(314, 60):
            for deed in random_deeds(chance, setting):
                other = behind(setting, deed)
                self.assertEqual(other, behind_by_words(setting, deed))
                self.assertEqual(behind(deed=deed, setting=setting), other)
                self.assertIs(is_setting(other), True)

    def test_by_hand(self):
        self.assertEqual(behind(COURT, ("pay", 1, 0, HALF)), (table([1, 0], ["1/2", 1]), table([0, 0], [1, 1])))
        self.assertEqual(behind(COURT, ("worth", 0, 1, LESS)), (table([1, 0], [0, 1]), table([0, -1], [1, 1])))
        self.assertEqual(behind(COURT, ("strike", 0)), (table([0, 1]), table([1, 1])))
        self.assertEqual(behind(COURT, ("order", (1, 0))), (table([0, 1], [1, 0]), table([1, 1], [0, 0])))
        self.assertEqual(behind(COURT, ("states", (1, 0))), (table([0, 1], [1, 0]), table([0, 0], [1, 1])))
        told = behind(COURT, ("action", (HALF, THIRD), (NIL, LESS)))
        self.assertEqual(told, (table([1, 0], [0, 1], ["1/2", "1/3"]), table([0, 0], [1, 1], [0, -1])))
        self.assertEqual(behind(COURT, ("scale", HALF, (ONE, NIL))), (table(["3/2", 0], [1, "1/2"]), COURT[1]))
        self.assertEqual(behind(COURT, ("lift", TWO, (ONE, LESS))), (COURT[0], table([1, -1], [3, 1])))
        three = (table([1, 2, 3], [4, 5, 6], [7, 8, 9]),) * 2
        self.assertEqual(behind(three, ("order", (2, 0, 1)))[0], table([7, 8, 9], [1, 2, 3], [4, 5, 6]))
        self.assertEqual(behind(three, ("states", (2, 0, 1)))[1], table([3, 1, 2], [6, 4, 5], [9, 7, 8]))
        self.assertEqual(behind(three, ("strike", 1))[0], table([1, 2, 3], [7, 8, 9]))


class PairTest(GivenCase):
    def assert_pair(self, setting, prior, value):
        is_so = is_pair_by_sums(setting, prior, value)
        self.assertIs(is_pair(setting, prior, value), is_so)
        self.assertIs(is_pair(value=value, prior=prior, setting=setting), is_so)
        return is_so

    def test_any_pair_is_one(self):
        chance = random.Random(315)
        for setting in settings_for(316, 40):
            for prior in priors_for(chance, len(setting[0][0]), 2):
                told = any_pair(setting, prior)
                self.assertTrue(self.assert_pair(setting, prior, told))
                self.assertEqual(any_pair(prior=prior, setting=setting), told)

    def test_splits_and_planes_a_little_off(self):
        chance = random.Random(317)
        for setting in settings_for(318, 30):
            states = len(setting[0][0])
            for prior in priors_for(chance, states, 1):
                split, plane = any_pair(setting, prior)
                for s in range(states):
                    for step in (TINY, -TINY):
                        moved = put(plane, (s,), pair(number_of(plane[s]) + step))
                        self.assert_pair(setting, prior, (split, moved))
                    if prior[s] != NIL:
                        self.assertIs(is_pair(setting, prior, (split, moved)), False)
                sure = tuple(
                    (prior[s], row(*[int(k == s) for k in range(states)])) for s in reversed(range(states))
                    if prior[s] != NIL
                )
                self.assert_pair(setting, prior, (sure, plane))
                self.assert_pair(setting, prior, (((ONE, prior),), plane))
                self.assert_pair(setting, prior, (split, roof(setting)[0]))

    def test_wrong_ones(self):
        for wrong in (
            (BEST, (ONE, ONE)), (BEST, (NIL, ONE)), (BEST, (NIL, (2, 2))), (BEST, (NIL, TWO, NIL)), (BEST, [NIL, TWO]),
            (BEST,), PAIR + PAIR[:1], list(PAIR), as_lists(PAIR), PAIR[::-1], (BEST[::-1], PAIR[1]),
            (BEST[:1], PAIR[1]), (list(BEST), PAIR[1]), (BEST, None), (None, PAIR[1]), (Odd(), PAIR[1]), (BEST, Odd()),
            (Odd(), Odd()),
            (BEST, (NIL, Odd())), (((ONE, PRIOR),), PAIR[1]), (((3, 5), ((HALF, HALF))), PAIR[1]), (BEST, ()), (),
            (BEST, ((-1, 7), TWO)), (BEST, (TWO, TWO)), BEST, PAIR[1],
        ):
            self.assertIs(is_pair(COURT, PRIOR, wrong), False)
        for thing in anything():
            for wrong in (thing, (thing, thing), (BEST, thing), (thing, PAIR[1])):
                self.assertIs(is_pair(COURT, PRIOR, wrong), False)
        self.assertIs(is_pair(COURT, PRIOR, PAIR), True)
        self.assertIs(is_pair(COURT, (HALF, HALF), PAIR), False)
        self.assertIs(is_pair(IDLE, PRIOR, PAIR), True)

    def test_a_plane_above_that_is_not_least(self):
        # It has the height of the split's worth, but is below the value elsewhere.
        low = (pair(Fraction(3, 5) / Fraction(7, 10)), NIL)
        self.assertEqual(at(low, PRIOR), Fraction(3, 5))
        self.assertIs(is_pair(COURT, PRIOR, (BEST, low)), False)
        self.assertIs(is_pair(COURT, PRIOR, (((ONE, PRIOR),), (NIL, NIL))), False)


class LedTest(GivenCase):
    def test_by_the_words(self):
        chance = random.Random(319)
        for setting in settings_for(320, 30):
            for deed in random_deeds(chance, setting):
                for prior in priors_for(chance, len(setting[0][0]), 1):
                    told = any_pair(setting, prior)
                    led = led_pair(setting, deed, prior, told)
                    self.assertEqual(led, led_pair_by_words(deed, told))
                    self.assertEqual(led_pair(pair=told, prior=prior, deed=deed, setting=setting), led)
                    there = led_prior(setting, deed, prior)
                    self.assertEqual(there, led_row_by_words(deed, prior))
                    self.assertEqual(led_prior(prior=prior, deed=deed, setting=setting), there)
                    if deed[0] not in ("states", "lift"):
                        self.assertEqual([led, there], [told, prior])

    def test_splits_ascend_again(self):
        told = led_pair(COURT, ("states", (1, 0)), PRIOR, PAIR)
        self.assertEqual(told, ((((2, 5), (NIL, ONE)), ((3, 5), (HALF, HALF))), (TWO, NIL)))
        three = plain_setting(3)
        prior = row("1/3", "1/3", "1/3")
        split = tuple((THIRD, row(*[int(k == s) for k in range(3)])) for s in (2, 1, 0))
        for order in permutations(range(3)):
            led = led_pair(three, ("states", order), prior, (split, row(0, 0, 0)))
            self.assertEqual(led, (split, row(0, 0, 0)))
        prior = row("1/2", "1/3", "1/6")
        split = (((1, 6), row(0, 0, 1)), (THIRD, row(0, 1, 0)), (HALF, row(1, 0, 0)))
        led = led_pair(three, ("states", (1, 2, 0)), prior, (split, row(0, 0, 0)))
        self.assertEqual(led[0], ((HALF, row(0, 0, 1)), ((1, 6), row(0, 1, 0)), (THIRD, row(1, 0, 0))))

    def test_lifted_planes(self):
        self.assertEqual(led_pair(COURT, ("lift", HALF, (ONE, LESS)), PRIOR, PAIR), (BEST, (ONE, NIL)))
        self.assertEqual(led_pair(COURT, ("scale", HALF, (ONE, LESS)), PRIOR, PAIR), PAIR)


class LeavesTest(GivenCase):
    def assert_leaves(self, setting, deed, prior, told):
        other, led = behind_by_words(setting, deed), led_row_by_words(deed, prior)
        is_so = is_pair_by_sums(other, led, led_pair_by_words(deed, told))
        self.assertIs(leaves(setting, deed, prior, told), is_so)
        self.assertIs(leaves(pair=told, prior=prior, deed=deed, setting=setting), is_so)
        if is_so:
            number = at(told[1], prior)
            if deed[0] == "lift":
                number = number_of(deed[1]) * number + at(deed[2], prior)
            self.assertEqual(roof_at(other, led), pair(number))
        return is_so

    def test_all_kinds(self):
        chance, told = random.Random(321), {}
        for setting in settings_for(322, 24):
            for deed in random_deeds(chance, setting):
                for prior in priors_for(chance, len(setting[0][0]), 1):
                    is_so = self.assert_leaves(setting, deed, prior, any_pair(setting, prior))
                    told.setdefault(deed[0], []).append(is_so)
        for word in ("order", "states", "scale", "lift"):
            self.assertNotIn(False, told[word])
        for word in ("pay", "worth", "action", "strike"):
            self.assertGreater(min(told[word].count(True), told[word].count(False)), 10, word)

    def test_a_worth_that_falls_or_rises(self):
        chance, kinds = random.Random(323), {}
        for setting in settings_for(324, 36):
            states = len(setting[0][0])
            for prior in priors_for(chance, states, 1):
                told = any_pair(setting, prior)
                action, state = chance.randrange(len(setting[0])), chance.randrange(states)
                number = number_of(setting[1][action][state])
                step = chance.choice([TINY, Fraction(1), Fraction(1, 3)])
                less = ("worth", action, state, pair(number - step))
                is_so = self.assert_leaves(setting, less, prior, told)
                if action not in [choice(setting, belief) for _, belief in told[0]]:
                    self.assertTrue(is_so)
                kinds.setdefault("less", []).append(is_so)
                more = ("worth", action, state, pair(number + step))
                is_so = self.assert_leaves(setting, more, prior, told)
                other = behind(setting, more)
                is_above = all(at(told[1], belief) >= value_at(other, belief) for belief in corners_of(other))
                self.assertIs(is_so, is_above)
                kinds.setdefault("more", []).append(is_so)
        for found in kinds.values():
            self.assertGreater(min(found.count(True), found.count(False)), 20)

    def test_never_best_actions_struck(self):
        chance, many = random.Random(325), 0
        for setting in settings_for(326, 75):
            for action in never_best(setting):
                if len(setting[0]) > 1:
                    for prior in priors_for(chance, len(setting[0][0]), 1):
                        many += 1
                        told = any_pair(setting, prior)
                        self.assertTrue(self.assert_leaves(setting, ("strike", action), prior, told))
        self.assertGreater(many, 50)
        self.assertIs(leaves(IDLE, ("strike", 2), PRIOR, PAIR), True)
        self.assertIs(leaves(IDLE, ("strike", 1), PRIOR, PAIR), False)

    def test_pays_moved(self):
        # Hardly more for acquitting, and the guilty must be named a little surer.
        for number, is_so in (((ONE), True), (pair(1 + TINY), False), (pair(1 - TINY), False)):
            self.assertIs(self.assert_leaves(COURT, ("pay", 0, 0, number), PRIOR, PAIR), is_so)

    def test_one_action_more(self):
        for pays, worths, is_so in (
            (("1/3", "1/3"), (9, 9), True), (("1/2", "1/2"), (1, 1), True), (("1/2", "1/2"), (0, 2), True),
            (("1/2", "1/2"), (1, 2), False), ((1, 0), (0, 2), True), ((1, 0), (0, 7), False),
            ((1, 1), (0, 0), False),
        ):
            deed = ("action", row(*pays), row(*worths))
            self.assertIs(self.assert_leaves(COURT, deed, PRIOR, PAIR), is_so)

    def test_great_numbers(self):
        great = 10 ** 399 + 7
        for deed in (
            ("worth", 1, 0, pair(Fraction(great + 1, great))), ("worth", 0, 1, pair(great)),
            ("lift", (1, great), row(0, great)), ("scale", (great, 3), row(great, 0)), ("worth", 0, 1, TWO),
            ("worth", 0, 1, pair(2 + Fraction(1, great))),
        ):
            self.assert_leaves(COURT, deed, PRIOR, PAIR)
        self.assertIs(leaves(COURT, ("worth", 0, 1, TWO), PRIOR, PAIR), True)
        self.assertIs(leaves(COURT, ("worth", 0, 1, pair(2 + Fraction(1, great))), PRIOR, PAIR), False)


class ErrorsTest(GivenCase):
    wrong_pairs = anything() + [
        (BEST, (ONE, ONE)), (BEST,), list(PAIR), as_lists(PAIR), PAIR[::-1], (BEST[::-1], PAIR[1]), (BEST, Odd()),
        (((ONE, PRIOR),), PAIR[1]), (BEST, (NIL, (4, 2))), nested(tuple, 60),
    ]
    told = {
        "setting": (InvalidSetting, WRONG_SETTINGS), "deed": (InvalidDeed, wrong_deeds()),
        "prior": (InvalidBelief, list(WRONG_BELIEFS) + anything()), "pair": (InvalidSplit, wrong_pairs),
    }

    def test_errors(self):
        good = {"setting": COURT, "deed": ("order", (1, 0)), "prior": PRIOR, "pair": PAIR}
        for words, call in (
            ("setting deed", behind), ("setting deed prior", led_prior), ("setting deed prior pair", led_pair),
            ("setting deed prior pair", leaves), ("setting prior", any_pair),
        ):
            self.assert_errors(call, {word: good[word] for word in words.split()}, self.told)
        self.assert_errors(fits, {"setting": COURT, "value": None}, self.told)
        self.assert_errors(is_pair, {"setting": COURT, "prior": PRIOR, "value": None}, self.told)

    def test_deeds_that_do_not_fit_here(self):
        for setting, deed in (
            (plain_setting(2), ("strike", 0)), (plain_setting(3, 5), ("action", (ONE,) * 3, (ONE,) * 3)),
            (plain_setting(3), ("states", (1, 0))), (COURT, ("order", (0, 1, 2))), (COURT, ("pay", 2, 0, ONE)),
        ):
            prior = (ONE,) + (NIL,) * (len(setting[0][0]) - 1)
            for call, rest in ((behind, ()), (led_prior, (prior,)), (led_pair, (prior, None)), (leaves, (prior, None))):
                self.assert_given(InvalidDeed, deed, call, setting, deed, *rest)

    def test_nothing_is_changed(self):
        given = [list(PAIR[0]), list(PAIR[1])]
        kept = [list(PAIR[0]), list(PAIR[1])]
        self.assert_given(InvalidSplit, given, leaves, COURT, ("order", (1, 0)), PRIOR, given)
        deed = ["order", [1, 0]]
        self.assert_given(InvalidDeed, deed, behind, COURT, deed)
        self.assertEqual([given, deed], [kept, ["order", [1, 0]]])

    def test_interface(self):
        self.assert_interface(deeds, {
            "fits": "setting value", "behind": "setting deed", "is_pair": "setting prior value",
            "any_pair": "setting prior", "led_prior": "setting deed prior", "led_pair": "setting deed prior pair",
            "leaves": "setting deed prior pair",
        })


if __name__ == "__main__":
    unittest.main()
