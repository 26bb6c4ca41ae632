import random
import unittest
from fractions import Fraction

from persuasion.programs import bar_to, best_weights, weights_to
from samples import ONE, at, numbers, pair, row

GREAT = 10 ** 399 + 7


def random_row(chance, many, most=4, below=3):
    return row(*[Fraction(chance.randint(-most, most), chance.randint(1, below)) for _ in range(many)])


def made(points, weights, length):
    return [sum(w * numbers(point)[k] for w, point in zip(numbers(weights), points)) for k in range(length)]


class ProgramsTest(unittest.TestCase):
    def assert_one(self, points, target):
        """Just one of weights and a bar is told; returns whether it is weights."""
        weights, bar = weights_to(points, target), bar_to(points, target)
        if weights is None:
            self.assertEqual(len(bar), len(target))
            self.assertGreater(at(bar, target), 0)
            self.assertTrue(all(at(bar, point) <= 0 for point in points))
            return False
        self.assertIsNone(bar)
        self.assertEqual(len(weights), len(points))
        self.assertTrue(all(weight >= 0 for weight in numbers(weights)))
        self.assertEqual(made(points, weights, len(target)), numbers(target))
        self.assertLessEqual(len([w for w in numbers(weights) if w]), len(target))
        return True

    def test_just_one(self):
        chance, told = random.Random(31), []
        for _ in range(600):
            length = chance.randint(1, 5)
            points = [random_row(chance, length) for _ in range(chance.randint(0, 8))]
            told.append(self.assert_one(points, random_row(chance, length)))
        self.assertGreater(min(told.count(True), told.count(False)), 100)

    def test_targets_that_are_made(self):
        chance = random.Random(32)
        for _ in range(200):
            length = chance.randint(1, 5)
            points = [random_row(chance, length, 2, 2) for _ in range(chance.randint(1, 9))]
            shares = row(*[chance.choice([0, 0, 1, Fraction(2, 3)]) for _ in points])
            self.assertTrue(self.assert_one(points, row(*made(points, shares, length))))

    def test_nothing(self):
        self.assertEqual(weights_to([], row(0, 0)), ())
        self.assertIsNone(bar_to([], row(0, 0)))
        self.assertFalse(self.assert_one([], row(0, -3)))
        self.assertFalse(self.assert_one([row(0, 0)], row(1, 0)))
        self.assertTrue(self.assert_one([row(0, 0), row(1, 1)], row(0, 0)))

    def test_dependent_equations(self):
        points = [row(1, 2, 3), row(0, 1, 1), row(2, 1, 3)]
        self.assertTrue(self.assert_one(points, row(3, 4, 7)))
        self.assertFalse(self.assert_one(points, row(3, 4, 8)))
        weights, prices = best_weights(points, row(3, 4, 7), row(1, 5, 2))
        self.assertEqual(at(prices, row(3, 4, 7)), at(weights, row(1, 5, 2)))

    def test_best_weights(self):
        chance, found = random.Random(33), 0
        for _ in range(400):
            length = chance.randint(1, 4)
            # The first number of each point is 1, so the weights' sum has a bound.
            points = [(ONE,) + random_row(chance, length) for _ in range(chance.randint(1, 8))]
            shares = row(*[Fraction(chance.randint(0, 3), 3) for _ in points])
            target = row(*made(points, shares, length + 1))
            if chance.random() < 0.3:
                target = (ONE,) + random_row(chance, length)
            worths = random_row(chance, len(points))
            told = best_weights(points, target, worths)
            if told is None:
                self.assertFalse(self.assert_one(points, target))
                continue
            weights, prices = told
            found += 1
            self.assertTrue(all(weight >= 0 for weight in numbers(weights)))
            self.assertEqual(made(points, weights, length + 1), numbers(target))
            self.assertTrue(all(at(prices, point) >= at((worth,), (ONE,)) for point, worth in zip(points, worths)))
            self.assertEqual(at(prices, target), at(weights, worths))
        self.assertGreater(found, 250)

    def test_great_numbers(self):
        points = [row(1, 0, Fraction(1, GREAT)), row(0, 1, 2), row(1, 1, -1), row(1, 0, 0)]
        target = row(Fraction(1, 3), Fraction(2, 3), Fraction(GREAT, GREAT + 1))
        self.assertTrue(self.assert_one(points, target))
        weights, prices = best_weights(points, target, (pair(GREAT), pair(0), pair(1), (1, GREAT)))
        self.assertEqual(at(prices, target), at(weights, (pair(GREAT), pair(0), pair(1), (1, GREAT))))

    def test_nothing_is_changed(self):
        points, target = [row(1, 2), row("1/2", 0)], row(3, 4)
        self.assertEqual(weights_to(points, target), weights_to(points, target))
        self.assertEqual([points, target], [[row(1, 2), row("1/2", 0)], row(3, 4)])


if __name__ == "__main__":
    unittest.main()
