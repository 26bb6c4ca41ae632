import random
import unittest
from fractions import Fraction
from itertools import product

from game_samples import (
    ALL_SIZES, BEYOND, CALLS, CALLS_PRIOR, EAGER, KEPT, MORE, OUT, WARY, breach_by_sums, disobedience,
    games_for, is_equilibrium_by_sums, is_public_by_sums, made_by, moved_a_bit, obedient_outcome, of, places, pure,
    random_answers, random_chances, random_game, random_information, random_outcome, random_table_of, sizes_of,
    table_by,
)
from persuasion import games
from persuasion.errors import (
    InvalidAnswers, InvalidBelief, InvalidExperiment, InvalidGame, InvalidOutcome, InvalidSetting, Unfit,
)
from persuasion.games import (
    advice, apart, as_game, breach, is_equilibrium, is_game, is_obedient, is_outcome, is_publicly_obedient, outcome_of,
    worth_of_outcome,
)
from persuasion.roofs import roof_at
from samples import (
    COURT, HALF, LESS, NIL, ONE, THIRD, WRONG_BELIEFS, WRONG_FRACTIONS, WRONG_SETTINGS, GivenCase, Odd, anything,
    as_lists, nested, number_of, pair, plain_setting, put, random_settings, row,
)

GREAT = 10 ** 65 + 7
INFORMATION = (((ONE, NIL), (NIL, NIL)), ((HALF, NIL), (NIL, HALF)))
ANSWERS = (((ONE, NIL), (NIL, ONE)), ((ONE, NIL), (NIL, ONE)))


class IsGameTest(unittest.TestCase):
    def test_all_sizes(self):
        for sizes in product(range(0, 6), repeat=3):
            table_of = table_by(sizes, lambda a, b, s: a + b - s)
            self.assertIs(is_game((table_of,) * 3), all(1 <= many <= 3 for many in sizes), sizes)

    def test_games(self):
        for game, _ in games_for(141):
            self.assertIs(is_game(game), True)
            self.assertIs(is_game(value=game), True)
            self.assertIs(is_game(game[:2]), False)
            self.assertIs(is_game(game + game[:1]), False)

    def test_tables_of_other_sizes(self):
        for sizes, other in product(((2, 2, 2), (1, 2, 3), (3, 1, 1)), ALL_SIZES):
            here, there = (table_by(told, lambda a, b, s: 1) for told in (sizes, other))
            for game in ((here, here, there), (here, there, here), (there, here, here)):
                self.assertIs(is_game(game), sizes == other)

    def test_rows_of_other_lengths(self):
        for path in ((k, a, b) for k in range(3) for a in range(2) for b in range(2)):
            for wrong in ((ONE,), (ONE, ONE, ONE), (), [ONE, ONE], None, ONE, Odd()):
                self.assertIs(is_game(put(CALLS, path, wrong)), False)
        for path in ((k, a) for k in range(3) for a in range(2)):
            for wrong in ((OUT,), (OUT, OUT, OUT), (), [OUT, OUT], None, OUT, Odd()):
                self.assertIs(is_game(put(CALLS, path, wrong)), False)

    def test_wrong_fractions(self):
        for wrong in WRONG_FRACTIONS:
            for path in ((0, 0, 0, 0), (1, 1, 0, 1), (2, 0, 1, 1), (2, 1, 1, 0)):
                self.assertIs(is_game(put(CALLS, path, wrong)), False)

    def test_whatever_it_is(self):
        for thing in anything() + [list(CALLS), as_lists(CALLS), put(CALLS, (1,), list(CALLS[1])), CALLS]:
            for value in ((thing,) * 3, (CALLS[0], CALLS[1], thing), (thing, CALLS[1], CALLS[2]), ((thing,),) * 3):
                self.assertIs(is_game(value), False)
            self.assertIs(is_game(thing), thing is CALLS)


class IsOutcomeTest(unittest.TestCase):
    def test_outcomes(self):
        chance = random.Random(142)
        for game, prior in games_for(143, 2):
            sizes = sizes_of(game[0])
            outcome = random_outcome(chance, sizes, prior)
            self.assertIs(is_outcome(game, prior, outcome), True)
            self.assertIs(is_outcome(value=outcome, prior=prior, game=game), True)
            other = random_chances(chance, sizes[2])
            self.assertIs(is_outcome(game, other, outcome), other == prior)
            for place in places(sizes):
                self.assertIs(is_outcome(game, prior, put(outcome, place, pair(of(outcome, place) + 1))), False)

    def test_numbers_below_nothing(self):
        chance = random.Random(144)
        for game, prior in games_for(145):
            sizes = sizes_of(game[0])
            if sizes[0] > 1:
                outcome = random_outcome(chance, sizes, prior)
                moved = put(outcome, (0, 0, 0), (-1, 7))
                moved = put(moved, (1, 0, 0), pair(of(outcome, (0, 0, 0)) + of(outcome, (1, 0, 0)) + Fraction(1, 7)))
                self.assertIs(is_outcome(game, prior, moved), False)

    def test_other_sizes(self):
        for sizes in product(range(0, 5), repeat=3):
            shares = [sizes[0] * sizes[1] * part for part in (3, Fraction(3, 2), 3)]
            value = table_by(sizes, lambda a, b, s: 1 / Fraction(shares[s % 3]))
            self.assertIs(is_outcome(CALLS, CALLS_PRIOR, value), sizes == (2, 2, 2))

    def test_wrong_fractions(self):
        for wrong in WRONG_FRACTIONS + [(2, 6), (-1, -3), (0, 3)]:
            for path in places((2, 2, 2)):
                self.assertIs(is_outcome(CALLS, CALLS_PRIOR, put(BEYOND, path, wrong)), False)

    def test_whatever_it_is(self):
        for thing in anything() + [list(BEYOND), as_lists(BEYOND), put(BEYOND, (0,), list(BEYOND[0])), CALLS]:
            for value in (thing, (thing, thing), (BEYOND[0], thing), ((OUT, thing), BEYOND[1])):
                self.assertIs(is_outcome(CALLS, CALLS_PRIOR, value), False)


class ObedienceTest(unittest.TestCase):
    def assert_obedience(self, game, prior, outcome):
        wrong = breach_by_sums(game, outcome)
        self.assertEqual(breach(game, prior, outcome), wrong)
        self.assertIs(is_obedient(game, prior, outcome), wrong is None)
        self.assertIs(is_publicly_obedient(game, prior, outcome), is_public_by_sums(game, outcome))
        return wrong is None

    def test_any_outcomes(self):
        chance, told = random.Random(146), []
        for game, prior in games_for(147, 3):
            told.append(self.assert_obedience(game, prior, random_outcome(chance, sizes_of(game[0]), prior)))
        self.assertGreater(min(told.count(True), told.count(False)), 5)

    def test_just_so_and_hardly_not(self):
        chance, told, public = random.Random(148), [], []
        for game, prior in games_for(149, 2):
            sizes = sizes_of(game[0])
            for alike in (False, True):
                outcome = obedient_outcome(game, prior, random_table_of(chance, sizes), alike)
                if outcome is not None:
                    self.assertTrue(self.assert_obedience(game, prior, outcome))
                    public.append(is_publicly_obedient(game, prior, outcome))
                    self.assertTrue(public[-1] or not alike)
                    for _ in range(3):
                        told.append(self.assert_obedience(game, prior, moved_a_bit(chance, outcome)))
        self.assertGreater(min(told.count(True), told.count(False), public.count(True), public.count(False)), 10)

    def test_great_numbers(self):
        chance = random.Random(150)
        for sizes in ((2, 2, 2), (3, 2, 2), (2, 3, 3)):
            game = random_game(chance, sizes, 10 ** 66, 10 ** 66)
            prior = row(*[Fraction(1, sizes[2])] * sizes[2])
            outcome = obedient_outcome(game, prior, random_table_of(chance, sizes))
            self.assertTrue(self.assert_obedience(game, prior, outcome))
            step = Fraction(1, 10 ** 300)
            for _ in range(6):
                self.assert_obedience(game, prior, moved_a_bit(chance, outcome, step))

    def test_one_state(self):
        # Both go for a dare, or turn away: Aumann's numbers.
        six, deuce, seven, none = ((6, 1),), ((2, 1),), ((7, 1),), (NIL,)
        dare = (((six, deuce), (seven, none)), ((six, seven), (deuce, none)), ((none, none), (none, none)))
        just = (((HALF,), ((1, 4),)), (((1, 4),), (NIL,)))
        self.assertIs(is_obedient(dare, (ONE,), just), True)
        self.assertEqual(disobedience(dare, just)[0, 0, 1], 0)
        for part, told in (((1, 1000), (0, 0, 1)), ((-1, 1000), None)):
            number = number_of(part)
            less = row(Fraction(1, 4) - number / 2)
            there = ((row(Fraction(1, 2) + number), less), (less, (NIL,)))
            self.assertEqual(breach(dare, (ONE,), there), told)

    def test_the_least_triple(self):
        game = (((OUT,), (EAGER,)), ((OUT,), (OUT,)), ((OUT,), (OUT,)))
        # All are advised the wrong action of the first receiver.
        self.assertEqual(breach(game, (THIRD, MORE), (((THIRD, NIL),), ((NIL, MORE),))), (0, 0, 1))
        self.assertEqual(breach(game, (THIRD, MORE), (((NIL, NIL),), ((THIRD, MORE),))), (0, 1, 0))
        both = (((OUT, OUT), (OUT, OUT)), ((OUT, WARY), (OUT, WARY)), ((OUT, OUT), (OUT, OUT)))
        self.assertEqual(breach(both, (THIRD, MORE), (((NIL, NIL), (THIRD, MORE)), (OUT, OUT))), (1, 1, 0))
        self.assertEqual(breach(both, (ONE, NIL), (((ONE, NIL), OUT), (OUT, OUT))), (1, 0, 1))

    def test_publicly_obedient_ones_are_obedient(self):
        for game, prior in games_for(151):
            outcome = obedient_outcome(game, prior, game[2], True)
            if outcome is not None:
                self.assertIs(is_publicly_obedient(game, prior, outcome), True)
                self.assertIs(is_obedient(game, prior, outcome), True)

    def test_private_and_not_public(self):
        told = (((NIL, HALF), OUT), ((NIL, NIL), (THIRD, (1, 6))))
        self.assertIs(is_obedient(CALLS, CALLS_PRIOR, told), True)
        self.assertIs(is_publicly_obedient(CALLS, CALLS_PRIOR, told), True)
        private = (((NIL, THIRD), OUT), ((NIL, (1, 6)), (THIRD, (1, 6))))
        self.assertIs(is_obedient(CALLS, CALLS_PRIOR, private), True)
        self.assertIs(is_publicly_obedient(CALLS, CALLS_PRIOR, private), False)

    def test_worth(self):
        chance = random.Random(152)
        for game, prior in games_for(153):
            outcome = random_outcome(chance, sizes_of(game[0]), prior)
            total = sum(of(outcome, place) * of(game[2], place) for place in places(sizes_of(outcome)))
            self.assertEqual(worth_of_outcome(game, prior, outcome), pair(total))
            self.assertEqual(worth_of_outcome(outcome=outcome, prior=prior, game=game), pair(total))


class PlayTest(unittest.TestCase):
    def test_outcomes_of_all_numbers_of_signals(self):
        chance = random.Random(154)
        for k, signals in enumerate(product((1, 2, 3, 4), repeat=2)):
            for game, prior in games_for(155 + k)[k % 3::9]:
                sizes = sizes_of(game[0])
                information = random_information(chance, sizes[2], *signals)
                answers = random_answers(chance, sizes, signals)
                made = outcome_of(game, prior, information, answers)
                self.assertEqual(made, made_by(prior, information, answers, sizes))
                self.assertIs(is_outcome(game, prior, made), True)
                told = is_equilibrium(game, prior, information, answers)
                self.assertIs(told, is_equilibrium_by_sums(game, prior, information, answers))
                self.assertFalse(told and not is_obedient(game, prior, made))

    def test_pure_answers(self):
        chance, told = random.Random(171), []
        for game, prior in games_for(172):
            sizes = sizes_of(game[0])
            signals = (chance.randint(1, 2), chance.randint(1, 2))
            information = random_information(chance, sizes[2], *signals)
            every = list(product(*[product(range(sizes[k]), repeat=signals[k]) for k in (0, 1)]))
            for first, second in chance.sample(every, min(len(every), 12)):
                answers = (tuple(pure(a, sizes[0]) for a in first), tuple(pure(b, sizes[1]) for b in second))
                told.append(is_equilibrium(game, prior, information, answers))
                self.assertIs(told[-1], is_equilibrium_by_sums(game, prior, information, answers))
                made = outcome_of(game, prior, information, answers)
                self.assertEqual(made, made_by(prior, information, answers, sizes))
                self.assertFalse(told[-1] and not is_obedient(game, prior, made))
        self.assertGreater(min(told.count(True), told.count(False)), 30)

    def test_mixed_and_just_so(self):
        win, lose, none = (ONE,), (LESS,), (NIL,)
        pennies = (((win, lose), (lose, win)), ((lose, win), (win, lose)), ((none, none), (none, none)))
        quarters = (((HALF, HALF),), ((HALF, HALF),))
        self.assertIs(is_equilibrium(pennies, (ONE,), (((ONE,),),), quarters), True)
        tilted = (((HALF, HALF),), (row("499/1000", "501/1000"),))
        self.assertIs(is_equilibrium(pennies, (ONE,), (((ONE,),),), tilted), False)
        self.assertIs(is_equilibrium(pennies, (ONE,), (((ONE,),),), tilted[::-1]), False)

    def test_signals_that_never_come(self):
        # What is answered to them hurts nobody.
        game, never = CALLS, (((NIL, NIL), (NIL, ONE)),) * 2
        for odd in (row(1, 0), row(0, 1), row("1/3", "2/3")):
            answers = ((odd, row(1, 0)), (odd, row(1, 0)))
            self.assertIs(is_equilibrium(game, (THIRD, MORE), never, answers), True)
            self.assertEqual(outcome_of(game, (THIRD, MORE), never, answers), (((THIRD, MORE), OUT), (OUT, OUT)))

    def test_by_name(self):
        told = {"answers": ANSWERS, "information": INFORMATION, "prior": CALLS_PRIOR, "game": CALLS}
        self.assertEqual(outcome_of(**told), made_by(CALLS_PRIOR, INFORMATION, ANSWERS, (2, 2, 2)))
        self.assertIs(is_equilibrium(**told), is_equilibrium_by_sums(CALLS, CALLS_PRIOR, INFORMATION, ANSWERS))
        self.assertIs(is_obedient(outcome=BEYOND, prior=CALLS_PRIOR, game=CALLS), False)
        self.assertIs(is_publicly_obedient(outcome=KEPT, prior=CALLS_PRIOR, game=CALLS), True)
        self.assertEqual(breach(outcome=BEYOND, prior=CALLS_PRIOR, game=CALLS), (1, 1, 0))


class AdviceTest(GivenCase):
    def test_there_and_back(self):
        chance = random.Random(173)
        for game, prior in games_for(174, 2):
            sizes = sizes_of(game[0])
            outcome = obedient_outcome(game, prior, random_table_of(chance, sizes))
            information, answers = advice(game, prior, outcome)
            self.assertEqual(answers, tuple(tuple(pure(k, many) for k in range(many)) for many in sizes[:2]))
            self.assertEqual(len(information), sizes[2])
            for s in range(sizes[2]):
                told = [number_of(number) for part in information[s] for number in part]
                self.assertEqual([sum(told), min(told) >= 0], [1, True])
                if prior[s] == NIL:
                    self.assertEqual(information[s][0][0], ONE)
            self.assertEqual(made_by(prior, information, answers, sizes), outcome)
            self.assertEqual(outcome_of(game, prior, information, answers), outcome)
            self.assertTrue(is_equilibrium_by_sums(game, prior, information, answers))
            self.assertIs(is_equilibrium(game, prior, information, answers), True)
            self.assertEqual(advice(outcome=outcome, prior=prior, game=game), (information, answers))

    def test_refused(self):
        chance, many = random.Random(175), 0
        for game, prior in games_for(176):
            outcome = random_outcome(chance, sizes_of(game[0]), prior)
            if breach_by_sums(game, outcome) is not None:
                many += 1
                self.assert_given(Unfit, outcome, advice, game, prior, outcome)
                self.assert_given(Unfit, outcome, advice, outcome=outcome, game=game, prior=prior)
        self.assertGreater(many, 10)

    def test_by_hand(self):
        information, answers = advice(CALLS, CALLS_PRIOR, KEPT)
        self.assertEqual(information, (((NIL, NIL), (NIL, ONE)), (((3, 4), NIL), (NIL, (1, 4)))))
        self.assertEqual(answers, ANSWERS)
        self.assertEqual(advice(CALLS, (ONE, NIL), ((OUT, OUT), (OUT, (ONE, NIL))))[0], (
            ((NIL, NIL), (NIL, ONE)), ((ONE, NIL), (NIL, NIL)),
        ))


class OneReceiverTest(GivenCase):
    def test_as_game(self):
        for setting in random_settings(177, 60):
            pays, worths = setting
            if len(pays) > 3 or len(pays[0]) > 3:
                self.assert_given(Unfit, setting, as_game, setting)
                self.assert_given(Unfit, setting, as_game, setting=setting)
                continue
            told = as_game(setting)
            nothing = tuple((row(*[0] * len(pays[0])),) for _ in pays)
            self.assertEqual(told, (tuple((part,) for part in pays), nothing, tuple((part,) for part in worths)))
            self.assertIs(is_game(told), True)

    def test_the_best_is_the_roof(self):
        for setting in random_settings(178, 45):
            if len(setting[0]) <= 3 and len(setting[0][0]) <= 3:
                prior = row(*[Fraction(1, len(setting[0][0]))] * len(setting[0][0]))
                for public in (False, True):
                    outcome = obedient_outcome(as_game(setting), prior, as_game(setting)[2], public)
                    self.assertEqual(worth_of_outcome(as_game(setting), prior, outcome), roof_at(setting, prior))

    def test_too_many(self):
        for states, actions in ((4, 1), (2, 4), (4, 5), (3, 5)):
            setting = plain_setting(states, actions)
            self.assert_given(Unfit, setting, as_game, setting)
        self.assertIs(is_game(as_game(plain_setting(3, 3))), True)


class ApartTest(GivenCase):
    def assert_apart(self, game, told):
        first, second = told
        sizes = sizes_of(game[0])
        self.assertEqual(first[0], tuple(rows[0] for rows in game[0]))
        self.assertEqual(second[0], game[1][0])
        for side, many in ((first, sizes[0]), (second, sizes[1])):
            self.assertEqual([(len(rows), len(rows[0])) for rows in side], [(many, sizes[2])] * 2)
        for a, b, s in places(sizes):
            self.assertEqual(number_of(first[1][a][s]) + number_of(second[1][b][s]), of(game[2], (a, b, s)))

    def test_a_pair(self):
        chance = random.Random(179)
        for sizes in ALL_SIZES:
            if sizes[2] > 1:
                own, other, here, there = (random_table_of(chance, sizes) for _ in range(4))
                game = (
                    table_by(sizes, lambda a, b, s: of(own, (a, 0, s))),
                    table_by(sizes, lambda a, b, s: of(other, (0, b, s))),
                    table_by(sizes, lambda a, b, s: of(here, (a, 0, s)) + of(there, (0, b, s))),
                )
                self.assert_apart(game, apart(game))
                self.assert_apart(game, apart(game=game))
                # A number moved anywhere is the end of it, where both have several actions.
                for k, place in product(range(3), places(sizes)):
                    moved = put(game, (k, *place), pair(of(game[k], place) + Fraction(1, GREAT)))
                    if (sizes[0] > 1 and sizes[1] > 1) or (k == 0 and sizes[1] > 1) or (k == 1 and sizes[0] > 1):
                        self.assertIsNone(apart(moved))
                    else:
                        self.assert_apart(moved, apart(moved))

    def test_games_of_one_receiver(self):
        for setting in random_settings(180, 30):
            if len(setting[0]) <= 3 and len(setting[0][0]) <= 3:
                self.assert_apart(as_game(setting), apart(as_game(setting)))

    def test_calls(self):
        self.assert_apart(CALLS, apart(CALLS))
        self.assertIsNone(apart(put(CALLS, (2, 1, 1, 0), (3, 1))))

    def test_one_state(self):
        for sizes in ALL_SIZES:
            if sizes[2] == 1:
                for tell in (lambda a, b, s: 0, lambda a, b, s: a * b, lambda a, b, s: 7 * a + 3 * b):
                    game = (table_by(sizes, tell),) * 3
                    with self.assertRaises(Unfit) as caught:
                        apart(game)
                    self.assertEqual((type(caught.exception.given), caught.exception.given), (int, 1))
                    self.assertRaises(Unfit, apart, game=game)


class ErrorsTest(GivenCase):
    wrong_games = anything() + [
        CALLS[:2], CALLS + CALLS[:1], list(CALLS), as_lists(CALLS), COURT, put(CALLS, (1, 0), OUT),
    ]
    wrong_outcomes = anything() + [
        CALLS[0], BEYOND[:1], list(BEYOND), as_lists(BEYOND), put(BEYOND, (0, 0, 0), THIRD),
        put(BEYOND, (0, 0, 0), (0, 2)),
    ]
    wrong_information = anything() + [
        INFORMATION[:1], INFORMATION + INFORMATION[:1], list(INFORMATION), as_lists(INFORMATION), INFORMATION[0],
        put(INFORMATION, (0,), ((ONE, NIL),)), put(INFORMATION, (1, 0), (HALF,)), put(INFORMATION, (0, 1, 1), ONE),
        put(INFORMATION, (1, 0, 0), (1, 4)), ((row(1, 0, 0, 0, 0),),) * 2, ((row(1),) * 5,) * 2, ((), ()), (((),),) * 2,
        put(INFORMATION, (1,), ((HALF, NIL, NIL), (HALF,))), put(INFORMATION, (1,), ((HALF, NIL, NIL, HALF), ())),
        put(INFORMATION, (1,), list(INFORMATION[1])), put(INFORMATION, (1, 1), [NIL, HALF]),
        (((ONE, LESS), (NIL, ONE)),) * 2, put(INFORMATION, (0, 0, 0), (2, 2)), put(INFORMATION, (0, 0, 1), (0, 2)),
    ]
    wrong_answers = anything() + [
        ANSWERS[:1], ANSWERS + ANSWERS[:1], list(ANSWERS), as_lists(ANSWERS), (ANSWERS[0], ANSWERS[1][:1]),
        (ANSWERS[0] + ANSWERS[0][:1], ANSWERS[1]), put(ANSWERS, (0, 0), (ONE,)), put(ANSWERS, (1, 1), (NIL, ONE, NIL)),
        put(ANSWERS, (0, 1), (ONE, ONE)), put(ANSWERS, (1, 0), ((2, 1), LESS)), put(ANSWERS, (1, 0), [ONE, NIL]),
        put(ANSWERS, (1, 0, 0), (2, 2)), put(ANSWERS, (0, 0, 0), (True, 1)), (ANSWERS[0], None), (Odd(), ANSWERS[1]),
        nested(tuple, 60),
    ]
    told = {
        "game": (InvalidGame, wrong_games), "outcome": (InvalidOutcome, wrong_outcomes),
        "prior": (InvalidBelief, list(WRONG_BELIEFS) + anything() + [(ONE,), row(1, 0, 0)]),
        "information": (InvalidExperiment, wrong_information), "answers": (InvalidAnswers, wrong_answers),
        "setting": (InvalidSetting, WRONG_SETTINGS),
    }

    def test_errors(self):
        good = {"game": CALLS, "prior": CALLS_PRIOR}
        self.assert_errors(is_outcome, {**good, "value": BEYOND}, self.told)
        for call in (worth_of_outcome, is_obedient, is_publicly_obedient, breach, advice):
            self.assert_errors(call, {**good, "outcome": KEPT}, self.told)
        for call in (outcome_of, is_equilibrium):
            self.assert_errors(call, {**good, "information": INFORMATION, "answers": ANSWERS}, self.told)
        self.assert_errors(as_game, {"setting": COURT}, self.told)
        self.assert_errors(apart, {"game": CALLS}, self.told)

    def test_information_of_all_sizes(self):
        for many, wide in product(range(1, 7), repeat=2):
            chances = row(*[Fraction(1, many * wide)] * many * wide)
            tables = (tuple(chances[k * wide:(k + 1) * wide] for k in range(many)),) * 2
            answers = ((row(1, 0),) * many, (row(0, 1),) * wide)
            if max(many, wide) <= 4:
                outcome_of(CALLS, CALLS_PRIOR, tables, answers)
                for short in ((answers[0][1:], answers[1]), (answers[0], answers[1] * 2)):
                    self.assert_given(InvalidAnswers, short, is_equilibrium, CALLS, CALLS_PRIOR, tables, short)
            else:
                self.assert_given(InvalidExperiment, tables, outcome_of, CALLS, CALLS_PRIOR, tables, answers)

    def test_wrong_fractions(self):
        for wrong in WRONG_FRACTIONS:
            told = put(INFORMATION, (1, 1, 1), wrong)
            self.assert_given(InvalidExperiment, told, outcome_of, CALLS, CALLS_PRIOR, told, ANSWERS)
            told = put(ANSWERS, (1, 1, 0), wrong)
            self.assert_given(InvalidAnswers, told, is_equilibrium, CALLS, CALLS_PRIOR, INFORMATION, told)

    def test_priors_of_one_state(self):
        game = (((ONE,),),), (((ONE,),),), (((ONE,),),)
        self.assertIs(is_game(game), True)
        self.assertIs(is_obedient(game, (ONE,), (((ONE,),),)), True)
        for wrong in ((NIL,), (HALF,), ((2, 1),), (), (ONE, NIL), ONE):
            self.assert_given(InvalidBelief, wrong, is_outcome, game, wrong, None)

    def test_unfit_last(self):
        self.assert_given(InvalidOutcome, None, advice, CALLS, CALLS_PRIOR, None)
        self.assert_given(Unfit, BEYOND, advice, CALLS, CALLS_PRIOR, BEYOND)

    def test_nothing_is_changed(self):
        given = as_lists(BEYOND)
        self.assertIs(is_outcome(CALLS, CALLS_PRIOR, given), False)
        self.assert_given(InvalidOutcome, given, breach, CALLS, CALLS_PRIOR, given)
        self.assertEqual(given, as_lists(BEYOND))

    def test_interface(self):
        three, play = "game prior outcome", "game prior information answers"
        self.assert_interface(games, {
            "is_game": "value", "is_outcome": "game prior value", "worth_of_outcome": three, "is_obedient": three,
            "is_publicly_obedient": three, "breach": three, "outcome_of": play, "is_equilibrium": play,
            "advice": three, "as_game": "setting", "apart": "game",
        })


if __name__ == "__main__":
    unittest.main()
