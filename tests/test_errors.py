import copy
import unittest

from persuasion import errors
from samples import Odd, nested

GIVEN = (
    "InvalidSetting", "InvalidBelief", "InvalidSplit", "InvalidExperiment", "InvalidPlane", "InvalidGame",
    "InvalidOutcome", "InvalidAnswers", "InvalidAction", "InvalidState", "InvalidNumber", "InvalidName",
    "InvalidDeed", "InvalidDrawing", "Unfit",
)
INDEX = ("InvalidLot", "InvalidWishes", "InvalidBook", "InvalidLines")
LINE = ("InvalidText",)
PLAIN = ("NotTransparent", "NothingToUndo", "NothingToRedo")
WITH = [(name, word) for word, names in (("given", GIVEN), ("index", INDEX), ("line", LINE)) for name in names]
KEPT = [
    None, True, False, 0, -3, 10 ** 5000, "", "a text", b"bytes", (), [], {}, {"a": [1]}, set([1]), (1, 2), [1, 2],
    ((1, 2), (3, 4)), object(), Odd(), ValueError, ValueError("x"), len,
    nested(tuple, 30), nested(list, 30), (nested(list, 29), nested(tuple, 29)),
]


def class_of(name):
    return getattr(errors, name)


class AttributesTest(unittest.TestCase):
    def test_kept_by_position_and_by_name(self):
        for name, word in WITH:
            for thing in KEPT:
                with self.subTest(name=name):
                    self.assertIs(getattr(class_of(name)(thing), word), thing)
                    self.assertIs(getattr(class_of(name)(**{word: thing}), word), thing)

    def test_nothing_else_is_set(self):
        for name, word in WITH:
            with self.subTest(name=name):
                self.assertEqual(vars(class_of(name)("x")), {word: "x"})
        for name in PLAIN + ("PersuasionError",):
            with self.subTest(name=name):
                self.assertEqual(vars(class_of(name)()), {})

    def test_the_attribute_is_asked_for(self):
        for name, word in WITH:
            with self.subTest(name=name):
                self.assertRaises(TypeError, class_of(name))
                self.assertRaises(TypeError, class_of(name), 1, 2)
                self.assertRaises(TypeError, class_of(name), **{word + "s": 1})

    def test_two_errors_keep_their_own(self):
        for name, word in WITH:
            with self.subTest(name=name):
                one, two = class_of(name)((1,)), class_of(name)(**{word: [2]})
                self.assertEqual([getattr(one, word), getattr(two, word)], [(1,), [2]])

    def test_lists_are_kept_unchanged(self):
        for name, word in WITH:
            with self.subTest(name=name):
                given = [1, [2, [3]]]
                self.assertIs(getattr(class_of(name)(given), word), given)
                self.assertEqual(given, [1, [2, [3]]])

    def test_text_of_any_error(self):
        for name, _ in WITH:
            for thing in KEPT:
                with self.subTest(name=name):
                    error = class_of(name)(thing)
                    self.assertIsInstance(str(error), str)
                    self.assertIsInstance(repr(error), str)

    def test_copies(self):
        for name, word in WITH:
            with self.subTest(name=name):
                self.assertEqual(getattr(copy.copy(class_of(name)((1, 2))), word), (1, 2))


class FamilyTest(unittest.TestCase):
    def test_bases(self):
        self.assertEqual(errors.PersuasionError.__bases__, (ValueError,))
        for name in [name for name, _ in WITH] + list(PLAIN):
            with self.subTest(name=name):
                self.assertEqual(class_of(name).__bases__, (errors.PersuasionError,))
                self.assertEqual(class_of(name).__mro__[1:], (errors.PersuasionError,) + ValueError.__mro__)

    def test_caught(self):
        made = [class_of(name)(0) for name, _ in WITH] + [class_of(name)() for name in PLAIN]
        for error in made:
            for kind in (error.__class__, errors.PersuasionError, ValueError, Exception):
                with self.subTest(error=error.__class__.__name__, kind=kind.__name__):
                    with self.assertRaises(kind) as caught:
                        raise error
                    self.assertIs(caught.exception, error)

    def test_not_caught_by_others(self):
        names = [name for name, _ in WITH] + list(PLAIN)
        for name in names:
            for other in names:
                if other != name:
                    self.assertFalse(issubclass(class_of(name), class_of(other)), (name, other))
            for kind in (TypeError, LookupError, ArithmeticError, RuntimeError, UnicodeError, AttributeError):
                self.assertFalse(issubclass(class_of(name), kind), (name, kind))

    def test_base_is_caught(self):
        with self.assertRaises(ValueError):
            raise errors.PersuasionError()

    def test_made_here(self):
        for name in [name for name, _ in WITH] + list(PLAIN) + ["PersuasionError"]:
            self.assertEqual(class_of(name).__module__, "persuasion.errors")


if __name__ == "__main__":
    unittest.main()
