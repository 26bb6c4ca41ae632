import random
import unittest
from fractions import Fraction

from persuasion import sheets
from persuasion.errors import InvalidBook, InvalidText
from persuasion.sheets import is_name, is_sheet, read_sheet, sheet_text
from samples import (
    COURT, NIL, ONE, PRIOR, WRONG_BELIEFS, WRONG_FRACTIONS, WRONG_SETTINGS, GivenCase, Odd, anything, as_lists,
    plain_setting, put, row,
)
from sheet_samples import BARRED, CASE, LETTERS, PLAIN, random_sheets, text_by_words

TEXT = "states a b\naction x 1 1 0 -1/2\nprior p 0 1\nprior q 1/2 1/2\n"


def names(many):
    return tuple(LETTERS[k] for k in range(many))


class NameTest(unittest.TestCase):
    def test_names(self):
        for name in ("a", "z", "abcdefgh", "zzzzzzzz", "state", "actions", "priors", "prio", "start", "sheet", "x"):
            self.assertIs(is_name(name), True)
            self.assertIs(is_name(value=name), True)
        for letter in LETTERS:
            for many in range(1, 12):
                self.assertIs(is_name(letter * many), many <= 8)

    def test_no_names(self):
        for name in BARRED + (
            "", "A", "aB", "a1", "1", "a b", " a", "a ", "a\n", "\n", "a-b", "a_b", "abcdefghi", "\u00e9", "\u00df",
            "a\u0301", "\uff41", "\u0430", "a\x00", "a/b", "-", "?", "States",
        ):
            self.assertIs(is_name(name), False)

    def test_whatever_it_is(self):
        for thing in anything() + [["a"], ("a",), b"a", {"a": 1}, {"a"}, ["a", "b"]]:
            self.assertIs(is_name(thing), thing == "ab" if isinstance(thing, str) else False)


class SheetCase(GivenCase):
    def assert_wrong(self, index, sheet):
        self.assertIs(is_sheet(sheet), False)
        self.assertIs(is_sheet(value=sheet), False)
        self.assert_told(InvalidBook, "index", index, sheet_text, sheet)
        self.assert_told(InvalidBook, "index", index, sheet_text, sheet=sheet)


class IsSheetTest(SheetCase):
    def test_sheets(self):
        for sheet in random_sheets(301, 60) + random_sheets(302, 60) + [CASE, PLAIN]:
            self.assertIs(is_sheet(sheet), True)
            self.assertIs(is_sheet(value=sheet), True)

    def test_a_state_and_an_action_of_one_name(self):
        for told in (("a", "b"), ("b", "a"), ("a", "start")):
            self.assertIs(is_sheet((("a", "b"), told, COURT, (("a", PRIOR), ("b", PRIOR)))), True)

    def test_no_tuple_of_four(self):
        for wrong in (CASE[:3], CASE + CASE[:1], list(CASE), as_lists(CASE), (), "abcd", {0: 1}, None, Odd()):
            self.assert_wrong(None, wrong)
        for wrong in anything():
            self.assert_wrong(None, wrong)

    def test_states(self):
        for many in range(8):
            setting = plain_setting(min(max(many, 2), 4))
            sheet = (names(many), ("x",), setting, ())
            if 2 <= many <= 4:
                self.assertIs(is_sheet(sheet), True)
            else:
                self.assert_wrong(0, sheet)
        for wrong in (
            ("a", "a"), ("a", "prior"), ("a", "B"), ("a", ""), ("a", None), ("a", Odd()), ("a", ("b",)), ["a", "b"],
            "ab", ("a", b"b"), ("a", "abcdefghi"), {"a": 1, "b": 2}, None, (Odd(), Odd()), (["a"], ["b"]), ("a", 1),
        ):
            self.assert_wrong(0, put(CASE, (0,), wrong))
        for thing in anything():
            self.assert_wrong(0, (thing, thing, thing, thing))

    def test_actions(self):
        for many in range(9):
            setting = plain_setting(2, min(max(many, 1), 5))
            sheet = (("a", "b"), names(many), setting, ())
            if 1 <= many <= 5:
                self.assertIs(is_sheet(sheet), True)
            else:
                self.assert_wrong(1, sheet)
        for wrong in (
            ("a", "a"), ("a", "action"), ("a", "b "), ("a", ""), ("a", None), ("a", Odd()), ["a", "b"], "ab", (), None,
            (["a"], ["b"]), ("a", "abcdefghi"),
        ):
            self.assert_wrong(1, put(CASE, (1,), wrong))
        for thing in anything():
            self.assert_wrong(1, (CASE[0], thing, thing, thing))

    def test_settings(self):
        for wrong in WRONG_SETTINGS + [plain_setting(3, 2), plain_setting(2, 1), plain_setting(2, 3)]:
            self.assert_wrong(2, put(CASE, (2,), wrong))
        for states in (2, 3, 4):
            for actions in range(1, 6):
                sheet = (("a", "b", "c"), ("x", "y"), plain_setting(states, actions), ())
                if (states, actions) == (3, 2):
                    self.assertIs(is_sheet(sheet), True)
                else:
                    self.assert_wrong(2, sheet)
        for wrong in WRONG_FRACTIONS:
            self.assert_wrong(2, put(CASE, (2, 1, 0, 1), wrong))
        for thing in anything():
            self.assert_wrong(2, CASE[:2] + (thing, thing))

    def test_priors(self):
        for many in range(12):
            sheet = CASE[:3] + (tuple((name, PRIOR) for name in names(many)),)
            if many <= 8:
                self.assertIs(is_sheet(sheet), True)
            else:
                self.assert_wrong(3, sheet)
        one, two = ("one", PRIOR), ("two", (ONE, NIL))
        self.assertIs(is_sheet(put(CASE, (3,), (one, two))), True)
        for wrong in (
            (two, one), (one, one), (one, ("one", (ONE, NIL))), (one, None), [one, two], (list(one),), one, None, "",
            {}, (one + one,), (one[:1],), (("prior", PRIOR),), (("One", PRIOR),), (("", PRIOR),), ((None, PRIOR),),
            ((Odd(), PRIOR),), (("one", Odd()),), (PRIOR,), (("one", list(PRIOR)),), ((PRIOR, "one"),), (Odd(),), Odd(),
        ):
            self.assert_wrong(3, put(CASE, (3,), wrong))
        for wrong in WRONG_BELIEFS:
            self.assert_wrong(3, put(CASE, (3,), (one, ("two", wrong))))
        for thing in anything():
            if not isinstance(thing, tuple) or len(thing) > 0:
                self.assert_wrong(3, put(CASE, (3,), thing))
            self.assert_wrong(3, put(CASE, (3,), (thing,)))

    def test_the_first_wrong_part(self):
        wrong = (("a",), (), None, None)
        for k in range(4):
            self.assert_wrong(k, CASE[:k] + wrong[k:])

    def test_nothing_is_changed(self):
        given = as_lists(CASE)
        self.assert_wrong(None, given)
        self.assertEqual(given, as_lists(CASE))


class TextTest(SheetCase):
    def test_as_the_document_writes_it(self):
        for sheet in random_sheets(303, 90) + random_sheets(304, 90) + [CASE, PLAIN]:
            text = sheet_text(sheet)
            self.assertEqual(text, text_by_words(sheet))
            self.assertEqual(sheet_text(sheet=sheet), text)
            self.assertEqual(read_sheet(text), sheet)
            self.assertEqual(read_sheet(text=text), sheet)
            self.assertIs(is_sheet(read_sheet(text)), True)

    def test_unlike_ones_have_unlike_texts(self):
        found = {}
        for sheet in random_sheets(305, 200) + random_sheets(306, 200):
            self.assertEqual(found.setdefault(sheet_text(sheet), sheet), sheet)
        self.assertGreater(len(found), 300)

    def test_by_hand(self):
        self.assertEqual(sheet_text(PLAIN), TEXT)
        self.assertEqual(read_sheet(TEXT), PLAIN)
        self.assertEqual(sheet_text(PLAIN[:3] + ((),)), "states a b\naction x 1 1 0 -1/2\n")

    def test_great_numbers(self):
        for number in (10 ** 399, -10 ** 399 - 7, Fraction(10 ** 399 + 1, 10 ** 399), Fraction(-1, 10 ** 399)):
            sheet = (("a", "b"), ("x",), ((row(number, 0),), (row(0, number),)), ())
            self.assertEqual(sheet_text(sheet), text_by_words(sheet))
            self.assertEqual(read_sheet(sheet_text(sheet)), sheet)
        long = Fraction(10 ** 3999 + 1, 3 * 10 ** 3998)
        sheet = (("a", "b"), ("x",), ((row(long, 0),), (row(0, -long),)), ())
        self.assertEqual(read_sheet(text_by_words(sheet)), sheet)

    def test_every_size(self):
        for states in (2, 3, 4):
            for actions in range(1, 6):
                for many in range(9):
                    belief = (ONE,) + (NIL,) * (states - 1)
                    priors = tuple((name, belief) for name in names(many))
                    sheet = (names(states), names(actions), plain_setting(states, actions), priors)
                    self.assertEqual(read_sheet(sheet_text(sheet)), sheet)
                    self.assertEqual(sheet_text(sheet), text_by_words(sheet))


class ReadTest(GivenCase):
    def assert_line(self, line, text):
        self.assert_told(InvalidText, "line", line, read_sheet, text)
        self.assert_told(InvalidText, "line", line, read_sheet, text=text)

    def test_no_string(self):
        for wrong in anything() + [b"states a b\n", ["states a b\n"], (TEXT,), Odd()]:
            if not isinstance(wrong, str):
                self.assert_line(None, wrong)

    def test_texts_that_end_too_early(self):
        for text, line in (
            ("", 0), ("\n", 0), ("states a b\n", 1), ("states a b", 0), ("s", 0), ("states", 0), ("states\n", 0),
            ("states a\n", 0), ("states a b\n\n", 1), ("states a b\na", 1), ("states a b\naction x 1 1 0 0", 1),
            ("states a b\naction x 1 1 0 0\n\n", 2), ("states a b\naction x 1 1 0 0\nprior p 1 0", 2),
            ("states a b\naction x 1 1 0 0\np", 2), ("\nstates a b\n", 0), (" ", 0), ("states a b\n ", 1),
        ):
            self.assert_line(line, text)
        for k in range(len(TEXT)):
            cut = TEXT[:k]
            whole = cut.endswith("\n") and cut.count("\n") > 1
            if whole:
                self.assertEqual(sheet_text(read_sheet(cut)), cut)
            else:
                self.assert_line(cut.count("\n"), cut)

    def test_words_of_the_first_row(self):
        for words in (
            "states a", "states a b c d e", "state a b", "States a b", "states a a", "states a B", "states  a b",
            " states a b", "states a b ", "states a\tb", "states a b\r", "states a states", "states a 1", "states a,b",
            "action x 1 1 0 0", "prior p 1 0", "a b", "states a abcdefghi", "statesa b", "states", "states ", "",
        ):
            self.assert_line(0, words + "\naction x 1 1 0 0\n")

    def test_words_of_an_action(self):
        for words in (
            "action x 1 1 0", "action x 1 1 0 0 0", "action x", "action", "action 1 1 0 0", "Action x 1 1 0 0",
            "action X 1 1 0 0", "action x 1 1 0 a", "action  x 1 1 0 0", "action x  1 1 0 0", "action x 1 1 0 0 ",
            " action x 1 1 0 0", "action x 1 1 0 0\t", "action action 1 1 0 0", "action xxxxxxxxx 1 1 0 0", "x 1 1 0 0",
            "states a b", "action x 1,1 0 0", "action x 1 1 0 0 # no", "prior p 1", "prior q 1 0 0", "",
        ):
            self.assert_line(1, "states a b\n" + words + "\n")
            self.assert_line(1, "states a b\n" + words + "\nprior p 1 0\n")
            self.assert_line(2, "states a b\naction y 1 1 0 0\n" + words + "\nprior p 1 0\n")
        self.assert_line(1, "states a b\nprior p 1 0\naction x 1 1 0 0\n")
        self.assert_line(2, "states a b\naction y 1 1 0 0\naction y 0 0 1 1\n")

    def test_words_of_a_prior(self):
        ahead = "states a b\naction x 1 1 0 0\nprior o 1 0\n"
        for words in (
            "prior p 1", "prior p 1 0 0", "prior p", "prior", "prior 1 0", "Prior p 1 0", "prior P 1 0", "prior p 1 1",
            "prior p 1/2 1/3", "prior p -1 2", "prior p 3/2 -1/2", "prior p 2/2 0", "prior p 1 0 ", " prior p 1 0",
            "prior  p 1 0", "prior p 1  0", "prior prior 1 0", "prior o 1 0", "prior n 1 0", "prior a 1 0",
            "prior p 1 a", "action y 1 1 0 0", "states a b", "prior ppppppppp 1 0", "", "p 1 0", "prior p 0 0",
        ):
            self.assert_line(3, ahead + words + "\n")
            self.assert_line(3, ahead + words + "\nprior z 1 0\n")
        for words in ("prior p 1 0", "prior p 0 1", "prior oo 1/3 2/3", "prior z 999/1000 1/1000"):
            self.assertEqual(sheet_text(read_sheet(ahead + words + "\n")), ahead + words + "\n")

    def test_numbers_that_are_none(self):
        for wrong in (
            "01", "00", "-0", "+1", "1/1", "0/1", "0/2", "2/4", "-2/4", "1/0", "1/-2", "-1/-2", "--1", "1.0", "1e3",
            "1_0", "", "-", "/", "1/", "/2", "1/2/3", "1//2", "01/2", "1/02", "-01", "-0/2", "0x1", "x", "\u00b2",
            "\u0661", "\uff11", "1/\uff12", "(1,2)", "1,2", "1 1", "10/5", "9/3", "inf", "nan", "None", "\u00bd",
            "-1/1", "6/4",
        ):
            for k in range(4):
                words = ["1", "-1/2", "0", "3"]
                words[k] = wrong
                self.assert_line(1, "states a b\naction x " + " ".join(words) + "\n")
        for right, number in (
            ("0", 0), ("-1", -1), ("1/2", Fraction(1, 2)), ("-7/3", Fraction(-7, 3)), ("10", 10), ("100/9", "100/9"),
            ("9" * 3000, int("9" * 3000)), ("1/" + "7" * 50, Fraction(1, int("7" * 50))),
        ):
            told = read_sheet("states a b\naction x 1 1 0 " + right + "\n")
            self.assertEqual(told[2][1], (row(0, number),))

    def test_too_many_rows(self):
        head = "states a b\n"
        actions = "".join("action " + letter + " 1 1 0 0\n" for letter in LETTERS[:9])
        rows = actions.split("\n")
        for many in range(1, 9):
            text = head + "\n".join(rows[:many]) + "\n"
            if many <= 5:
                self.assertEqual(len(read_sheet(text)[1]), many)
            else:
                self.assert_line(6, text)
        head = head + "action x 1 1 0 0\n"
        rows = ["prior " + letter + " 1/2 1/2" for letter in LETTERS]
        for many in range(0, 12):
            text = head + "".join(words + "\n" for words in rows[:many])
            if many <= 8:
                self.assertEqual(len(read_sheet(text)[3]), many)
            else:
                self.assert_line(10, text)

    def test_rows_doubled_swapped_left_out_and_cut(self):
        for sheet in [each for each in random_sheets(307, 60) + random_sheets(308, 60) if len(each[3]) > 1]:
            rows = sheet_text(sheet).split("\n")[:-1]
            actions, last = len(sheet[1]), len(rows) - 1
            self.assert_rows(0, rows[1:])
            self.assert_rows(1, rows[:1] + rows)
            self.assert_rows(2, rows[:2] + rows[1:])
            self.assert_rows(last + 1, rows + rows[-1:])
            self.assert_rows(last, rows[:-2] + [rows[-1], rows[-2]])
            self.assert_rows(0, rows[1:2] + rows[:1] + rows[2:])
            swapped = rows[:actions] + [rows[actions + 1], rows[actions]] + rows[actions + 2:]
            self.assert_rows(actions + 1 if actions > 1 else 1, swapped)
            self.assert_rows(1, rows[:1] + rows[actions + 1:])
            self.assert_rows(last + 1, rows + [rows[1]])
            self.assert_rows(last + 1, rows + [""])
            for k in range(len(rows)):
                self.assert_rows(k, rows[:k] + [rows[k] + " "] + rows[k + 1:])
                self.assert_rows(k, rows[:k] + [rows[k] + " 1"] + rows[k + 1:])
                self.assert_rows(k, rows[:k] + [rows[k][:-1].rstrip("-") + "x/"] + rows[k + 1:])
                self.assert_rows(k, rows[:k] + [""] + rows[k:])

    def assert_rows(self, line, rows):
        self.assert_line(line, "".join(words + "\n" for words in rows))

    def test_other_signs_at_the_ends_of_rows(self):
        for sign in ("\r", "\x0b", "\x0c", "\x1c", "\x85", "\u2028"):
            self.assert_line(0, TEXT.replace("\n", sign + "\n"))
            self.assert_line(0, TEXT.replace("\n", sign))
            self.assert_line(4, TEXT + sign)

    def test_one_sign_changed(self):
        chance, told = random.Random(309), []
        for _ in range(600):
            k = chance.randrange(len(TEXT))
            sign = chance.choice("ab x012/-\npq")
            for text in (TEXT[:k] + sign + TEXT[k + 1:], TEXT[:k] + sign + TEXT[k:], TEXT[:k] + TEXT[k + 1:]):
                try:
                    sheet = read_sheet(text)
                    told.append(True)
                    self.assertEqual(text_by_words(sheet), text)
                except InvalidText as error:
                    told.append(False)
                    self.assert_no_sheet_begins(text, error.line)
        self.assertGreater(min(told.count(True), told.count(False)), 100)

    def assert_no_sheet_begins(self, text, line):
        """The rows ahead of the wrong one begin the text of a sheet; with this one they are wrong at it."""
        rows = text.split("\n")
        ahead = "".join(words + "\n" for words in rows[:line])
        if line == 1:
            whole = ahead + "action x" + " 1" * 2 * (len(rows[0].split()) - 1) + "\n"
        else:
            whole = ahead if line > 1 else TEXT
        self.assertEqual(text_by_words(read_sheet(whole)), whole)
        if line < text.count("\n"):
            self.assert_line(line, ahead + rows[line] + "\n")


class InterfaceTest(GivenCase):
    def test_interface(self):
        self.assert_interface(sheets, {
            "is_sheet": "value", "is_name": "value", "sheet_text": "sheet", "read_sheet": "text",
        })


if __name__ == "__main__":
    unittest.main()
