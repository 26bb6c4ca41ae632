import copy
import random
import unittest
from fractions import Fraction

from persuasion import experiments
from persuasion.errors import InvalidBelief, InvalidExperiment, InvalidSetting, InvalidSplit, Unfit
from persuasion.experiments import experiment_of, is_experiment, is_split, split_of, split_worth
from samples import (
    COURT, HALF, LESS, NIL, ONE, PRIOR, THIRD, WRONG_BELIEFS, WRONG_FRACTIONS, WRONG_SETTINGS, GivenCase, Odd,
    anything, as_lists, is_chances, is_split_by_sums, nested, number_of, numbers, pair, plain_setting, priors_for, put,
    random_settings, random_split, row, table, value_at,
)

GREAT = 10 ** 399 + 7
BEST = (((3, 5), (HALF, HALF)), ((2, 5), (ONE, NIL)))


def splits(seed, many, sizes=(1, 2, 3, 4, 5, 6)):
    """Settings, with a prior and a split of it each, of all numbers of states and all these sizes in turn."""
    chance = random.Random(seed)
    out = []
    for k in range(many):
        states = 2 + k % 3
        prior, split = random_split(chance, states, sizes[(k // 3) % len(sizes)])
        out.append((plain_setting(states), prior, split))
    return out


def random_experiment(chance, states, signals):
    rows = []
    for _ in range(states):
        shares = [chance.choice([0, 1, 1, 2, 5]) for _ in range(signals)]
        shares[chance.randrange(signals)] += 1
        rows.append(row(*[Fraction(share, sum(shares)) for share in shares]))
    return tuple(rows)


def made_by(prior, experiment):
    """The split that an experiment makes, worked out from the words of point 9."""
    found = {}
    for k in range(len(experiment[0])):
        joint = [number_of(p) * number_of(chances[k]) for p, chances in zip(prior, experiment)]
        if sum(joint):
            belief = tuple(number / sum(joint) for number in joint)
            found[belief] = found.get(belief, 0) + sum(joint)
    return tuple((pair(found[belief]), row(*belief)) for belief in sorted(found))


class IsSplitTest(unittest.TestCase):
    def test_splits(self):
        for setting, prior, split in splits(41, 120, range(1, 11)):
            self.assertIs(is_split(setting, prior, split), True)
            self.assertIs(is_split(value=split, setting=setting, prior=prior), True)

    def test_not_the_prior(self):
        chance = random.Random(42)
        for setting, prior, split in splits(43, 60):
            other = random_split(chance, len(prior), 3)[0]
            self.assertIs(is_split(setting, other, split), other == prior)

    def test_another_order(self):
        for setting, prior, split in splits(44, 60, (2, 3, 4, 5, 6, 7)):
            self.assertIs(is_split(setting, prior, split[::-1]), False)
            self.assertIs(is_split(setting, prior, split[1:] + split[:1]), False)

    def test_like_beliefs(self):
        for setting, prior, split in splits(45, 60):
            weight, belief = split[0]
            half = pair(number_of(weight) / 2)
            self.assertIs(is_split(setting, prior, ((half, belief), (half, belief)) + split[1:]), False)

    def test_weights(self):
        for setting, prior, split in splits(46, 60, (2, 3, 4)):
            for k in range(len(split)):
                self.assertIs(is_split(setting, prior, split[:k] + split[k + 1:]), False)
                for number in (0, -1, 1, 2, number_of(split[k][0]) + Fraction(1, 1000)):
                    self.assertIs(is_split(setting, prior, put(split, (k, 0), pair(number))), False)

    def test_a_weight_of_nothing(self):
        sure = ((NIL, (NIL, ONE)), (ONE, (ONE, NIL)))
        self.assertIs(is_split(COURT, (ONE, NIL), sure[1:]), True)
        self.assertIs(is_split(COURT, (ONE, NIL), sure), False)
        below = ((LESS, (NIL, ONE)), ((2, 1), (HALF, HALF)))
        self.assertIs(is_split(COURT, (ONE, NIL), below), False)

    def test_the_prior_alone(self):
        self.assertIs(is_split(COURT, PRIOR, ((ONE, PRIOR),)), True)
        self.assertIs(is_split(COURT, PRIOR, ()), False)

    def test_wrong_fractions(self):
        for wrong in WRONG_FRACTIONS:
            for k in (0, 1):
                self.assertIs(is_split(COURT, PRIOR, put(BEST, (k, 0), wrong)), False)
                for state in (0, 1):
                    self.assertIs(is_split(COURT, PRIOR, put(BEST, (k, 1, state), wrong)), False)

    def test_not_in_lowest_terms(self):
        for path, wrong in (((0, 0), (6, 10)), ((0, 1, 0), (2, 4)), ((1, 1, 1), (0, 2)), ((1, 1, 0), (2, 2))):
            self.assertIs(is_split(COURT, PRIOR, put(BEST, path, wrong)), False)

    def test_other_lengths(self):
        for path, wrong in (
            ((0,), BEST[0] + (ONE,)), ((0,), BEST[0][:1]), ((0,), ()), ((0, 1), (HALF, HALF, NIL)), ((0, 1), (ONE,)),
            ((), BEST + ((),)), ((), BEST + (None,)), ((), BEST[:1] + (Odd(),)), ((1,), Odd()), ((1, 1), Odd()),
        ):
            self.assertIs(is_split(COURT, PRIOR, put(BEST, path, wrong)), False)

    def test_lists_for_tuples(self):
        for wrong in (
            list(BEST), as_lists(BEST), put(BEST, (0,), list(BEST[0])), put(BEST, (1, 1), [ONE, NIL]),
            put(BEST, (1, 0), [2, 5]),
        ):
            self.assertIs(is_split(COURT, PRIOR, wrong), False)

    def test_whatever_it_is(self):
        for thing in anything():
            for value in (thing, (thing,), (thing, thing), ((ONE, thing),), ((thing, PRIOR),)):
                self.assertIs(is_split(COURT, PRIOR, value), False)
                self.assertIs(is_split(plain_setting(4), row(0, 1, 0, 0), value), False)

    def test_great_numbers(self):
        prior = ((1, GREAT), (GREAT - 1, GREAT))
        self.assertIs(is_split(COURT, prior, (((GREAT - 1, GREAT), (NIL, ONE)), ((1, GREAT), (ONE, NIL)))), True)
        self.assertIs(is_split(COURT, prior, (((1, GREAT), (NIL, ONE)), ((GREAT - 1, GREAT), (ONE, NIL)))), False)

    def test_many_beliefs(self):
        beliefs = [((k, 499), (499 - k, 499)) for k in range(1, 499)]
        split = tuple(((1, 498), tuple(pair(number_of(part)) for part in belief)) for belief in beliefs)
        self.assertIs(is_split(COURT, (HALF, HALF), split), True)


class IsExperimentTest(unittest.TestCase):
    def test_all_sizes(self):
        for rows in range(0, 6):
            for signals in range(0, 9):
                value = (row(*[int(k == 0) for k in range(signals)]),) * rows
                for states in (2, 3, 4):
                    told = is_experiment(plain_setting(states), value)
                    self.assertIs(told, rows == states and 1 <= signals <= 6, (rows, signals, states))

    def test_experiments(self):
        chance = random.Random(47)
        for k in range(60):
            value = random_experiment(chance, 2 + k % 3, 1 + k % 6)
            self.assertIs(is_experiment(plain_setting(2 + k % 3), value), True)
            self.assertIs(is_experiment(value=value, setting=plain_setting(2 + k % 3)), True)

    def test_rows_unlike_in_length(self):
        for value in (((ONE, NIL), (ONE,)), ((ONE,), (ONE, NIL)), ((ONE,), ()), ((), (ONE,))):
            self.assertIs(is_experiment(COURT, value), False)

    def test_other_sums(self):
        for wrong in ((HALF, THIRD), (ONE, ONE), (NIL, NIL), ((2, 1), LESS), (LESS, (2, 1)), (HALF, (2, 4))):
            self.assertIs(is_experiment(COURT, (wrong, (ONE, NIL))), False)
            self.assertIs(is_experiment(COURT, ((ONE, NIL), wrong)), False)

    def test_wrong_fractions(self):
        for wrong in WRONG_FRACTIONS:
            for path in ((0, 0), (0, 1), (1, 0), (1, 1)):
                self.assertIs(is_experiment(COURT, put(((ONE, NIL), (NIL, ONE)), path, wrong)), False)

    def test_lists_and_whatever_it_is(self):
        good = ((ONE, NIL), (NIL, ONE))
        for thing in anything() + [list(good), as_lists(good), put(good, (0,), [ONE, NIL]), put(good, (1, 1), [1, 1])]:
            for value in (thing, (thing, thing), ((ONE,), thing), (thing, (ONE,))):
                self.assertIs(is_experiment(COURT, value), False)


class SplitOfTest(unittest.TestCase):
    def test_against_the_words(self):
        chance = random.Random(48)
        for k in range(90):
            states = 2 + k % 3
            experiment = random_experiment(chance, states, 1 + (k // 3) % 6)
            for prior in priors_for(chance, states, 3):
                told = split_of(plain_setting(states), prior, experiment)
                self.assertEqual(told, made_by(prior, experiment))
                self.assertTrue(is_split_by_sums(prior, told))
                self.assertEqual(told, split_of(prior=prior, experiment=experiment, setting=plain_setting(states)))

    def test_nothing_is_told(self):
        for value in (((ONE,), (ONE,)), ((THIRD, (2, 3)), (THIRD, (2, 3))), ((NIL, ONE), (NIL, ONE))):
            self.assertEqual(split_of(COURT, PRIOR, value), ((ONE, PRIOR),))

    def test_all_is_told(self):
        everything = table([1, 0, 0], [0, 1, 0], [0, 0, 1])
        told = split_of(plain_setting(3), row("1/2", 0, "1/2"), everything)
        self.assertEqual(told, ((HALF, row(0, 0, 1)), (HALF, row(1, 0, 0))))

    def test_signals_that_never_come(self):
        value = table([0, "3/7", 0, "4/7"], [0, 1, 0, 0])
        self.assertEqual(split_of(COURT, PRIOR, value), BEST)
        self.assertEqual(split_of(COURT, (NIL, ONE), value), ((ONE, (NIL, ONE)),))

    def test_a_signal_cut_in_two_or_told_in_another_order(self):
        chance = random.Random(49)
        for k in range(60):
            states, signals = 2 + k % 3, 2 + k % 4
            value = random_experiment(chance, states, signals)
            prior = priors_for(chance, states, 1)[2]
            told = split_of(plain_setting(states), prior, value)
            part = Fraction(chance.randint(0, 4), 4)
            cut = tuple(
                row(part * number_of(chances[0]), *numbers(chances[1:]), (1 - part) * number_of(chances[0]))
                for chances in value
            )
            order = chance.sample(range(signals), signals)
            for other in (cut, tuple(tuple(chances[j] for j in order) for chances in value)):
                self.assertEqual(split_of(plain_setting(states), prior, other), told)


class ExperimentOfTest(unittest.TestCase):
    def test_there_and_back(self):
        for setting, prior, split in splits(50, 120):
            told = experiment_of(setting, prior, split)
            self.assertEqual(len(told), len(prior))
            for state, chances in enumerate(told):
                self.assertTrue(is_chances(chances, len(split)))
                if prior[state] == NIL:
                    self.assertEqual(chances, (ONE,) + (NIL,) * (len(split) - 1))
            self.assertEqual(made_by(prior, told), split)
            self.assertEqual(split_of(setting, prior, told), split)
            for k, (weight, belief) in enumerate(split):
                joint = [number_of(p) * number_of(chances[k]) for p, chances in zip(prior, told)]
                self.assertEqual(joint, [number_of(weight) * b for b in numbers(belief)])
            self.assertEqual(experiment_of(split=split, setting=setting, prior=prior), told)

    def test_states_of_no_chance(self):
        prior = row("1/2", 0, "1/2", 0)
        split = ((HALF, row(0, 0, 1, 0)), (HALF, row(1, 0, 0, 0)))
        told = table([0, 1], [1, 0], [1, 0], [1, 0])
        self.assertEqual(experiment_of(plain_setting(4), prior, split), told)
        self.assertEqual(experiment_of(COURT, (NIL, ONE), ((ONE, (NIL, ONE)),)), ((ONE,), (ONE,)))

    def test_more_than_six(self):
        for setting, prior, split in splits(51, 24, (7, 8, 9, 10)):
            self.assertIs(is_split(setting, prior, split), True)
            with self.assertRaises(Unfit) as caught:
                experiment_of(setting, prior, split)
            self.assertEqual(caught.exception.given, len(split))
            with self.assertRaises(Unfit) as caught:
                experiment_of(split=split, prior=prior, setting=setting)
            self.assertEqual(caught.exception.given, len(split))

    def test_too_many_and_wrong(self):
        prior, split = random_split(random.Random(52), 2, 7)
        wrong = split[::-1]
        with self.assertRaises(InvalidSplit) as caught:
            experiment_of(COURT, prior, wrong)
        self.assertIs(caught.exception.given, wrong)


class SplitWorthTest(unittest.TestCase):
    def test_against_the_words(self):
        chance = random.Random(53)
        for setting in random_settings(54, 90):
            prior, split = random_split(chance, len(setting[0][0]), chance.randint(1, 10))
            total = sum(number_of(weight) * value_at(setting, belief) for weight, belief in split)
            self.assertEqual(split_worth(setting, prior, split), pair(total))
            self.assertEqual(split_worth(split=split, prior=prior, setting=setting), pair(total))

    def test_values_and_not_worths_count(self):
        tie = (((ONE, ONE), (ONE, ONE)), ((NIL, (4, 1)), ((2, 1), NIL)))
        self.assertEqual(split_worth(tie, (HALF, HALF), ((HALF, (NIL, ONE)), (HALF, (ONE, NIL)))), (3, 1))
        self.assertEqual(split_worth(tie, (HALF, HALF), ((ONE, (HALF, HALF)),)), (2, 1))

    def test_great_numbers(self):
        setting = (((ONE, NIL), (NIL, ONE)), ((pair(GREAT), (1, GREAT)), ((-1, GREAT), pair(-GREAT))))
        told = split_worth(setting, PRIOR, (((3, 10), (NIL, ONE)), ((7, 10), (ONE, NIL))))
        self.assertEqual(told, pair(Fraction(4 * GREAT, 10)))


WRONG_SPLITS = anything() + [
    BEST[:1], BEST[::-1], BEST + BEST, list(BEST), as_lists(BEST), ((ONE, (HALF, HALF)),), ((ONE, row(1, 0, 0)),),
    nested(tuple, 60),
]
WRONG_EXPERIMENTS = anything() + [
    ((ONE,),), ((ONE,), (ONE,), (ONE,)), ((ONE, NIL), (ONE,)), ((THIRD, THIRD), (ONE, NIL)), ((), ()),
    (row(1, 0, 0, 0, 0, 0, 0),) * 2, [[ONE], [ONE]], ((True,), (True,)),
]


class ErrorsTest(GivenCase):
    told = {
        "setting": (InvalidSetting, WRONG_SETTINGS), "prior": (InvalidBelief, list(WRONG_BELIEFS) + anything()),
        "split": (InvalidSplit, WRONG_SPLITS), "experiment": (InvalidExperiment, WRONG_EXPERIMENTS),
    }

    def test_errors(self):
        self.assert_errors(is_split, {"setting": COURT, "prior": PRIOR, "value": BEST}, self.told)
        self.assert_errors(is_experiment, {"setting": COURT, "value": ((ONE,), (ONE,))}, self.told)
        self.assert_errors(split_of, {"setting": COURT, "prior": PRIOR, "experiment": ((ONE,), (ONE,))}, self.told)
        for call in (experiment_of, split_worth):
            self.assert_errors(call, {"setting": COURT, "prior": PRIOR, "split": BEST}, self.told)

    def test_nothing_is_changed(self):
        for wrong in (as_lists(BEST), [[ONE, NIL], [ONE, NIL]]):
            before = copy.deepcopy(wrong)
            self.assertIs(is_split(COURT, PRIOR, wrong), False)
            self.assertIs(is_experiment(COURT, wrong), False)
            self.assert_given(InvalidSplit, wrong, experiment_of, COURT, PRIOR, wrong)
            self.assert_given(InvalidExperiment, wrong, split_of, COURT, PRIOR, wrong)
            self.assertEqual(wrong, before)

    def test_interface(self):
        self.assert_interface(experiments, {
            "is_split": "setting prior value", "is_experiment": "setting value",
            "split_of": "setting prior experiment", "experiment_of": "setting prior split",
            "split_worth": "setting prior split",
        })


if __name__ == "__main__":
    unittest.main()
