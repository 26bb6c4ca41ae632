import random
import unittest
from fractions import Fraction
from itertools import product

from game_samples import (
    ALL_SIZES, BOTH, CALLS, CALLS_PRIOR, DARE, HALF, LOSE, NONE, OUT, PENNIES, TWO, WIN, are_prices_above_by_sums,
    are_prices_by_sums, disobedience, games_for, hunts, is_outcome_by_sums, is_public_by_sums, odd_games, of, places,
    pull_by_sums, random_chances, random_game, random_table_of, sizes_of, sum_of, table_by, weighed,
)
from persuasion import design
from persuasion.design import are_prices, are_public_prices, best_private, best_public, bring, public_bar
from persuasion.errors import InvalidBelief, InvalidGame, InvalidWishes
from persuasion.games import apart, as_game, is_obedient, is_publicly_obedient
from persuasion.roofs import roof_at
from samples import (
    COURT, NIL, ONE, WRONG_BELIEFS, WRONG_FRACTIONS, GivenCase, Odd, anything, as_lists, at, is_row_of,
    near_settings, number_of, numbers, pair, priors_for, put, random_settings, roof_by_search, row,
)

TINY = Fraction(1, 10 ** 30)
STEADY = (((NIL, NIL), (NIL, NIL)),) * 2


def is_obedient_by_sums(game, prior, outcome):
    return is_outcome_by_sums(game, prior, outcome) and min(disobedience(game, outcome).values()) >= 0


def is_obedient_in_public(game, prior, outcome):
    return is_outcome_by_sums(game, prior, outcome) and is_public_by_sums(game, outcome)


def game_apart(setting, mate):
    """The game of two settings, whose worths are added."""
    sizes = (len(setting[0]), len(mate[0]), len(setting[0][0]))

    def number(rows, k, s):
        return number_of(rows[k][s])
    return (
        table_by(sizes, lambda a, b, s: number(setting[0], a, s)),
        table_by(sizes, lambda a, b, s: number(mate[0], b, s)),
        table_by(sizes, lambda a, b, s: number(setting[1], a, s) + number(mate[1], b, s)),
    )


class PrivateTest(GivenCase):
    def assert_best(self, game, prior):
        told = best_private(game, prior)
        self.assertEqual(len(told), 4)
        number, outcome, prices, multipliers = told
        self.assertTrue(is_obedient_by_sums(game, prior, outcome))
        self.assertEqual(number, pair(sum_of(outcome, game[2])))
        self.assertTrue(are_prices_above_by_sums(game, prices, multipliers))
        self.assertEqual(at(prices, prior), number_of(number))
        self.assertIs(are_prices(game, prices, multipliers), True)
        self.assertIs(is_obedient(game, prior, outcome), True)
        return number_of(number)

    def test_games_of_all_sizes(self):
        for game, prior in games_for(201, 3):
            self.assert_best(game, prior)

    def test_odd_games(self):
        for game, prior in odd_games(202):
            self.assert_best(game, prior)

    def test_one_state(self):
        chance = random.Random(203)
        for sizes in ALL_SIZES:
            if sizes[2] == 1:
                for _ in range(4):
                    self.assert_best(random_game(chance, sizes), (ONE,))
        self.assertEqual(self.assert_best(DARE, (ONE,)), Fraction(21, 2))
        self.assertEqual(self.assert_best(PENNIES, (ONE,)), 0)

    def test_what_a_hunt_is_worth(self):
        # The value of a game in which one gains what the other loses: both mix, and 1 / 5 is sure.
        pays = (((TWO,), LOSE), (LOSE, WIN))
        told = table_by((2, 2, 1), lambda *place: -of(pays, place))
        for worths, number in ((pays, Fraction(1, 5)), (told, Fraction(-1, 5))):
            self.assertEqual(self.assert_best((pays, told, worths), (ONE,)), number)

    def test_great_numbers(self):
        chance = random.Random(204)
        for sizes in ((2, 2, 2), (1, 3, 2), (3, 2, 1)):
            game = random_game(chance, sizes, 10 ** 60, 10 ** 60)
            self.assert_best(game, random_chances(chance, sizes[2]))
        least = row(TINY, 1 - TINY)
        self.assertEqual(self.assert_best(CALLS, least), 2 * TINY + TINY + TINY / 2)

    def test_sure_priors(self):
        for sizes in ALL_SIZES:
            chance = random.Random(205)
            game = random_game(chance, sizes)
            for k in range(sizes[2]):
                self.assert_best(game, row(*[int(s == k) for s in range(sizes[2])]))

    def test_by_name(self):
        self.assertEqual(best_private(prior=CALLS_PRIOR, game=CALLS), best_private(CALLS, CALLS_PRIOR))
        self.assertEqual(best_private(DARE, (ONE,))[0], (21, 2))


class PublicTest(GivenCase):
    def assert_just_one(self, game, prior):
        told, bar = best_public(game, prior), public_bar(game, prior)
        self.assertIs(told is None, bar is not None)
        if told is None:
            self.assertEqual(len(bar), 2)
            self.assertTrue(are_prices_by_sums(game, lambda place: 0, *bar, public=True))
            self.assertLess(at(bar[0], prior), 0)
            return None
        self.assertEqual(len(told), 4)
        number, outcome, prices, multipliers = told
        self.assertTrue(is_obedient_in_public(game, prior, outcome))
        self.assertEqual(number, pair(sum_of(outcome, game[2])))
        self.assertTrue(are_prices_above_by_sums(game, prices, multipliers, True))
        self.assertEqual(at(prices, prior), number_of(number))
        self.assertIs(are_public_prices(game, prices, multipliers), True)
        self.assertIs(is_publicly_obedient(game, prior, outcome), True)
        self.assertLessEqual(number_of(number), number_of(best_private(game, prior)[0]))
        return number_of(number)

    def test_games_of_all_sizes(self):
        told = [self.assert_just_one(game, prior) for game, prior in games_for(206, 4)]
        self.assertGreater(told.count(None), 2)

    def test_odd_games(self):
        told = [self.assert_just_one(game, prior) for game, prior in odd_games(207)]
        self.assertGreater(told.count(None), 5)

    def test_hunts(self):
        chance = random.Random(208)
        told = [
            self.assert_just_one(hunts(chance, sizes), random_chances(chance, sizes[2]))
            for sizes in ALL_SIZES * 3 if min(sizes[:2]) > 1
        ]
        self.assertGreater(min(told.count(None), len(told) - told.count(None)), 8)

    def test_one_state(self):
        # With one state the best pure equilibrium is told.
        chance = random.Random(209)
        for sizes in ALL_SIZES:
            if sizes[2] == 1:
                for _ in range(6):
                    game, found = random_game(chance, sizes, 2, 1), []
                    for a, b, _ in places(sizes):
                        best_a = max(of(game[0], (o, b, 0)) for o in range(sizes[0]))
                        best_b = max(of(game[1], (a, o, 0)) for o in range(sizes[1]))
                        if of(game[0], (a, b, 0)) == best_a and of(game[1], (a, b, 0)) == best_b:
                            found.append(of(game[2], (a, b, 0)))
                    self.assertEqual(self.assert_just_one(game, (ONE,)), max(found) if found else None)
        self.assertEqual(self.assert_just_one(DARE, (ONE,)), 9)
        self.assertIsNone(self.assert_just_one(PENNIES, (ONE,)))

    def test_by_the_prior(self):
        # In the first state both have something in common, in the second one they play at pennies.
        calm = ((WIN, NONE), (NONE, NONE))
        pays = tuple(
            table_by((2, 2, 2), lambda a, b, s, k=k: of((calm, PENNIES[k])[s], (a, b, 0))) for k in (0, 1)
        )
        game = (pays[0], pays[1], pays[0])
        told = [self.assert_just_one(game, row(1 - x, x)) for x in (0, Fraction(1, 4), 1)]
        self.assertEqual([number is None for number in told], [False, False, True])
        # Up to this the second one does as told in the hope of the first state.
        edge = Fraction(1, 3)
        self.assertIsNotNone(self.assert_just_one(game, row(1 - edge, edge)))
        self.assertIsNone(self.assert_just_one(game, row(1 - edge - TINY, edge + TINY)))

    def test_great_numbers(self):
        chance = random.Random(210)
        for sizes in ((2, 2, 2), (3, 2, 3), (3, 3, 1)):
            game = random_game(chance, sizes, 10 ** 60, 10 ** 60)
            self.assert_just_one(game, random_chances(chance, sizes[2]))

    def test_by_name(self):
        self.assertEqual(best_public(prior=CALLS_PRIOR, game=CALLS)[0], ONE)
        self.assertIsNone(public_bar(prior=CALLS_PRIOR, game=CALLS))
        self.assertEqual(public_bar(prior=(ONE,), game=PENNIES), public_bar(PENNIES, (ONE,)))


class OneReceiverTest(GivenCase):
    def test_the_roof(self):
        chance = random.Random(211)
        for setting in random_settings(212, 60) + near_settings(213, 60):
            if len(setting[0]) <= 3 and len(setting[0][0]) <= 3:
                for prior in priors_for(chance, len(setting[0][0]), 1):
                    game, number = as_game(setting), pair(roof_by_search(setting, prior))
                    self.assertEqual(roof_at(setting, prior), number)
                    self.assertEqual(best_private(game, prior)[0], number)
                    self.assertEqual(best_public(game, prior)[0], number)
                    self.assertIsNone(public_bar(game, prior))

    def test_either_receiver(self):
        chance = random.Random(214)
        for setting in near_settings(215, 30):
            if len(setting[0]) <= 3 and len(setting[0][0]) <= 3:
                own, idle, worths = as_game(setting)
                game = tuple((tuple(rows[0] for rows in told),) for told in (idle, own, worths))
                for prior in priors_for(chance, len(setting[0][0]), 1):
                    number = pair(roof_by_search(setting, prior))
                    self.assertEqual(best_private(game, prior)[0], number)
                    self.assertEqual(best_public(game, prior)[0], number)

    def test_games_apart(self):
        chance, less = random.Random(216), 0
        found = [setting for setting in near_settings(229, 120) if 1 < len(setting[0]) <= 3 and len(setting[0][0]) <= 3]
        for setting in found:
            mate = chance.choice([told for told in found if len(told[0][0]) == len(setting[0][0])])
            game = game_apart(setting, mate)
            prior = random_chances(chance, len(setting[0][0]))
            total = number_of(roof_at(setting, prior)) + number_of(roof_at(mate, prior))
            self.assertEqual(sum(number_of(roof_at(told, prior)) for told in apart(game)), total)
            self.assertEqual(best_private(game, prior)[0], pair(total))
            public = number_of(best_public(game, prior)[0])
            self.assertLessEqual(public, total)
            less += public < total
        self.assertGreater(less, 5)

    def test_calls(self):
        self.assertEqual([best_private(CALLS, CALLS_PRIOR)[0], best_public(CALLS, CALLS_PRIOR)[0]], [(7, 6), ONE])


class PricesTest(GivenCase):
    def assert_prices(self, game, prices, multipliers, public):
        is_so = are_prices_above_by_sums(game, prices, multipliers, public)
        call = are_public_prices if public else are_prices
        self.assertIs(call(game, prices, multipliers), is_so)
        self.assertIs(call(multipliers=multipliers, prices=prices, game=game), is_so)
        return is_so

    def test_a_little_less_and_a_little_more(self):
        for (game, prior), public in product(games_for(217), (False, True)):
            told = best_public(game, prior) if public else best_private(game, prior)
            if told is not None:
                _, _, prices, multipliers = told
                for s in range(len(prior)):
                    more = put(prices, (s,), pair(number_of(prices[s]) + TINY))
                    self.assertTrue(self.assert_prices(game, more, multipliers, public))
                    less = put(prices, (s,), pair(number_of(prices[s]) - TINY))
                    # Less in a state that may be would bar the worth that there is.
                    self.assertFalse(self.assert_prices(game, less, multipliers, public) and prior[s] != NIL)

    def test_numbers_of_multipliers_moved(self):
        chance, told = random.Random(218), []
        for (game, prior), public in product(games_for(219), (False, True)):
            found = best_public(game, prior) if public else best_private(game, prior)
            if found is None:
                continue
            _, _, prices, multipliers = found
            for _ in range(4):
                path = [chance.randrange(2)]
                while type(at_path(multipliers, path)[0]) is tuple:
                    path.append(chance.randrange(len(at_path(multipliers, path))))
                step = chance.choice([TINY, -TINY, Fraction(1), Fraction(-1)])
                number = pair(number_of(at_path(multipliers, path)) + step)
                told.append(self.assert_prices(game, prices, put(multipliers, path, number), public))
        self.assertGreater(min(told.count(True), told.count(False)), 40)

    def test_random_ones(self):
        chance, told = random.Random(220), []
        for game, _ in games_for(221, 2):
            sizes = sizes_of(game[0])
            for public in (False, True):
                multipliers = random_multipliers(chance, sizes, public)
                low = [
                    max(of(game[2], place) + pull for place, pull in pulls(game, multipliers, public) if place[2] == s)
                    for s in range(sizes[2])
                ]
                for step in (0, TINY, -TINY):
                    told.append(self.assert_prices(game, row(*[x + step for x in low]), multipliers, public))
        self.assertGreater(min(told.count(True), told.count(False)), 50)

    def test_a_number_below_nothing_that_moves_nothing(self):
        # What is had by doing as advised in the place of doing as advised is nothing.
        high = row(12)
        self.assertIs(are_prices(DARE, high, STEADY), True)
        for k, a in product((0, 1), (0, 1)):
            self.assertIs(are_prices(DARE, high, put(STEADY, (k, a, a), (7, 3))), True)
            self.assertIs(are_prices(DARE, high, put(STEADY, (k, a, a), (-7, 3))), False)
        steady = ((STEADY[0],) * 2,) * 2
        self.assertIs(are_public_prices(DARE, high, steady), True)
        for k, a, b in product((0, 1), repeat=3):
            own = (a, b)[k]
            self.assertIs(are_public_prices(DARE, high, put(steady, (k, a, b, own), (7, 3))), True)
            self.assertIs(are_public_prices(DARE, high, put(steady, (k, a, b, own), (-7, 3))), False)

    def test_forms(self):
        high, public = row(12), ((STEADY[0],) * 2,) * 2
        wrongs = ((), row(12, 12), [(12, 1)], ((12, 2),), ((True, 1),), (12,), (12, 1), None, "12", Odd(), (Odd(),))
        for wrong in wrongs:
            self.assertIs(are_prices(DARE, wrong, STEADY), False)
            self.assertIs(are_public_prices(DARE, wrong, public), False)
        for told, call in ((STEADY, are_prices), (public, are_public_prices)):
            wrongs = [told[:1], told + told[:1], list(told), as_lists(told), told[0], (told[0], None), (Odd(), told[1])]
            for k in (0, 1):
                for path in ((k,), (k, 0), (k, 1), (k, 1, 0), (k, 0, 1))[:5 if call is are_public_prices else 3]:
                    part = at_path(told, path)
                    wrongs.extend(put(told, path, wrong) for wrong in (
                        part[:1], part + part[:1], list(part), (), None, Odd(), "ab", part[::-1] + ((),), [NIL, NIL],
                        (NIL, None), (NIL, Odd()),
                    ))
            for wrong in wrongs + anything():
                self.assertIs(call(DARE, high, wrong), False)
        self.assertIs(are_prices(DARE, high, public), False)
        self.assertIs(are_public_prices(DARE, high, STEADY), False)

    def test_wrong_fractions(self):
        for wrong in WRONG_FRACTIONS:
            self.assertIs(are_prices(DARE, (wrong,), STEADY), False)
            self.assertIs(are_prices(DARE, row(12), put(STEADY, (1, 0, 1), wrong)), False)
            told = put(((STEADY[0],) * 2,) * 2, (0, 1, 0, 1), wrong)
            self.assertIs(are_public_prices(DARE, row(12), told), False)

    def test_unlike_numbers_of_actions(self):
        for sizes in ALL_SIZES:
            game = (table_by(sizes, lambda a, b, s: 0),) * 3
            for first, second in product((1, 2, 3), repeat=2):
                told = (((NIL,) * first,) * first, ((NIL,) * second,) * second)
                is_so = (first, second) == sizes[:2]
                self.assertIs(are_prices(game, (NIL,) * sizes[2], told), is_so)
                told = tuple((((NIL,) * own,) * second,) * first for own in (first, second))
                self.assertIs(are_public_prices(game, (NIL,) * sizes[2], told), is_so)

    def test_whatever_it_is(self):
        for thing in anything():
            for call in (are_prices, are_public_prices):
                self.assertIs(call(CALLS, thing, thing), False)
                self.assertIs(call(CALLS, (thing, thing), (thing, thing)), False)
                self.assertIs(call(CALLS, ONE + ONE, ((thing, thing), (thing, thing))), False)


def at_path(told, path):
    for k in path:
        told = told[k]
    return told


def pulls(game, multipliers, public):
    return [(place, pull_by_sums(game, multipliers, place, public)) for place in places(sizes_of(game[0]))]


def random_multipliers(chance, sizes, public):
    def told(many):
        return row(*[Fraction(chance.choice([0, 0, 1, 2]), chance.randint(1, 3)) for _ in range(many)])
    if public:
        return tuple(
            tuple(tuple(told(sizes[k]) for _ in range(sizes[1])) for _ in range(sizes[0])) for k in (0, 1)
        )
    return tuple(tuple(told(sizes[k]) for _ in range(sizes[k])) for k in (0, 1))


class BringTest(GivenCase):
    def assert_just_one(self, game, prior, wishes):
        """Whether all wishes are kept; what is told is held against the words of point 23."""
        told = bring(game, prior, wishes)
        self.assertEqual(len(told), 2)
        if told[0] == "brought":
            self.assertTrue(is_obedient_by_sums(game, prior, told[1]))
            self.assertTrue(all(sum_of(told[1], aim) >= number_of(number) for aim, number in wishes))
            return True
        self.assertEqual(told[0], "barred")
        weights, prices, multipliers = told[1]
        self.assertTrue(is_row_of(weights, len(wishes)) and all(number >= 0 for number in numbers(weights)))
        self.assertTrue(are_prices_by_sums(game, lambda place: weighed(wishes, weights, place), prices, multipliers))
        self.assertLess(at(prices, prior), sum(number_of(w) * number_of(x) for w, (_, x) in zip(weights, wishes)))
        return False

    def test_no_wish(self):
        for game, prior in games_for(222) + odd_games(223):
            self.assertTrue(self.assert_just_one(game, prior, ()))

    def test_just_met_and_hardly_more(self):
        for game, prior in games_for(224, 2):
            most = number_of(best_private(game, prior)[0])
            self.assertTrue(self.assert_just_one(game, prior, ((game[2], pair(most)),)))
            self.assertTrue(self.assert_just_one(game, prior, ((game[2], pair(most - TINY)),)))
            self.assertFalse(self.assert_just_one(game, prior, ((game[2], pair(most + TINY)),)))

    def test_contrary_ones(self):
        for game, prior in games_for(225):
            foe = table_by(sizes_of(game[0]), lambda *place: -of(game[2], place))
            least = -number_of(best_private((game[0], game[1], foe), prior)[0])
            most = number_of(best_private(game, prior)[0])
            for number in (least, most, (least + most) / 2):
                aims = ((game[2], pair(number)), (foe, pair(-number)))
                self.assertTrue(self.assert_just_one(game, prior, aims))
                self.assertFalse(self.assert_just_one(game, prior, ((game[2], pair(number + TINY)), aims[1])))
                self.assertFalse(self.assert_just_one(game, prior, (aims[1], (game[2], pair(number + 5)))))
            self.assertFalse(self.assert_just_one(game, prior, ((foe, pair(TINY - least)),)))

    def test_several(self):
        chance, told = random.Random(226), {True: 0, False: 0}
        for game, prior in games_for(227, 3):
            aims = tuple(
                (random_table_of(chance, sizes_of(game[0])), pair(Fraction(chance.randint(-3, 3), 2)))
                for _ in range(chance.randint(1, 4))
            )
            told[self.assert_just_one(game, prior, aims)] += 1
        self.assertGreater(min(told.values()), 15)

    def test_wishes_that_ask_for_nothing(self):
        for game, prior in games_for(228)[::3]:
            still = table_by(sizes_of(game[0]), lambda a, b, s: 0)
            self.assertTrue(self.assert_just_one(game, prior, ((still, NIL),) * 4))
            self.assertTrue(self.assert_just_one(game, prior, ((still, (-1, 3)),)))
            self.assertFalse(self.assert_just_one(game, prior, ((still, (1, 3)), (still, NIL))))

    def test_all_together_and_not_one_more(self):
        full = table_by((2, 2, 2), lambda a, b, s: 1)
        self.assertTrue(self.assert_just_one(CALLS, CALLS_PRIOR, ((full, ONE),)))
        self.assertFalse(self.assert_just_one(CALLS, CALLS_PRIOR, ((full, pair(1 + TINY)),)))

    def test_dare(self):
        for number, told in (((1, 2), True), ((3, 5), True), ((0, 1), True), ((1, 1), False)):
            self.assertIs(self.assert_just_one(DARE, (ONE,), ((BOTH, number),)), told and number != (3, 5))
        self.assertEqual(bring(wishes=((BOTH, HALF),), prior=(ONE,), game=DARE)[0], "brought")

    def test_great_numbers(self):
        great = Fraction(10 ** 60, 7)
        aim = table_by((2, 2, 2), lambda a, b, s: great * of(CALLS[2], (a, b, s)))
        self.assertTrue(self.assert_just_one(CALLS, CALLS_PRIOR, ((aim, pair(great * Fraction(7, 6))),)))
        self.assertFalse(self.assert_just_one(CALLS, CALLS_PRIOR, ((aim, pair(great * Fraction(7, 6) + TINY)),)))


class ErrorsTest(GivenCase):
    told = {
        "game": (InvalidGame, anything() + [
            CALLS[:2], CALLS + CALLS[:1], list(CALLS), as_lists(CALLS), COURT, put(CALLS, (1, 0), OUT),
        ]),
        "prior": (InvalidBelief, list(WRONG_BELIEFS) + anything() + [(ONE,), row(1, 0, 0)]),
    }

    def test_errors(self):
        good = {"game": CALLS, "prior": CALLS_PRIOR}
        for call in (best_private, best_public, public_bar):
            self.assert_errors(call, good, self.told)
        self.assert_errors(bring, {**good, "wishes": ()}, self.told)
        for call in (are_prices, are_public_prices):
            self.assert_errors(call, {"game": CALLS, "prices": ONE, "multipliers": None}, self.told)

    def assert_wishes(self, index, wishes):
        self.assert_told(InvalidWishes, "index", index, bring, CALLS, CALLS_PRIOR, wishes)
        self.assert_told(InvalidWishes, "index", index, bring, wishes=wishes, game=CALLS, prior=CALLS_PRIOR)

    def test_no_tuple_of_up_to_four(self):
        good = (CALLS[2], ONE)
        for wrong in ([], [good], (good,) * 5, (None,) * 5, (good,) * 999, {}, "", "ab", b"", None, 0, True, Odd()):
            self.assert_wishes(None, wrong)
        for wrong in anything():
            if not isinstance(wrong, tuple) or len(wrong) > 4:
                self.assert_wishes(None, wrong)

    def test_the_first_that_is_none(self):
        good = (CALLS[2], ONE)
        wrongs = anything() + [
            [CALLS[2], ONE], (CALLS[2],), good + good, (ONE, CALLS[2]), (CALLS[2], 1), (CALLS[2], (2, 2)),
            (DARE[2], ONE), (CALLS, ONE), (list(CALLS[2]), ONE), (as_lists(CALLS[2]), ONE), (CALLS[2][:1], ONE),
            (Odd(), ONE), (CALLS[2], Odd()), (put(CALLS[2], (1, 1), (TWO,)), ONE), CALLS[2],
            (put(CALLS[2], (0, 1, 1), (2, 4)), ONE),
        ]
        for wrong in wrongs:
            self.assert_wishes(0, (wrong,))
            self.assert_wishes(0, (wrong, wrong, good))
            self.assert_wishes(2, (good, good, wrong, wrong))
            self.assert_wishes(3, (good, good, good, wrong))
        for wrong in WRONG_FRACTIONS:
            self.assert_wishes(1, (good, (CALLS[2], wrong)))

    def test_wishes_behind_the_others(self):
        self.assert_given(InvalidGame, None, bring, None, None, None)
        self.assert_given(InvalidBelief, None, bring, CALLS, None, None)

    def test_nothing_is_changed(self):
        given = [[as_lists(CALLS[2]), [1, 1]]]
        self.assert_wishes(None, given)
        self.assertEqual(given, [[as_lists(CALLS[2]), [1, 1]]])
        self.assertEqual(best_private(CALLS, CALLS_PRIOR), best_private(CALLS, CALLS_PRIOR))
        self.assertEqual(bring(DARE, (ONE,), ((BOTH, ONE),)), bring(DARE, (ONE,), ((BOTH, ONE),)))

    def test_interface(self):
        self.assert_interface(design, {
            "best_private": "game prior", "best_public": "game prior", "public_bar": "game prior",
            "are_prices": "game prices multipliers", "are_public_prices": "game prices multipliers",
            "bring": "game prior wishes",
        })


if __name__ == "__main__":
    unittest.main()
