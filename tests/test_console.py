import random
import unittest
from fractions import Fraction

from persuasion import console
from persuasion.books import again, changed, fresh_book, pairs_in, sheet_in, undone, work_of
from persuasion.cells import corners
from persuasion.cheap import cheap_value, is_transparent
from persuasion.console import fresh_console, said, told_all
from persuasion.disclosure import is_disclosed
from persuasion.errors import InvalidDeed, InvalidLines, NothingToRedo, NothingToUndo
from persuasion.pictures import strip, triangle
from persuasion.roofs import roof_at
from persuasion.settings import choice, value
from persuasion.sheets import read_sheet, sheet_text
from persuasion.telling import helps, is_all_best, never_helps
from samples import COURT, HALF, LESS, NIL, ONE, PRIOR, GivenCase, Odd, anything, pair, plain_setting, row, table
from sheet_samples import CASE, is_pair_by_sums, random_changes, random_sheets, word_of

OPEN = "sheet states innocent guilty ; action acquit 1 0 0 0 ; action convict 0 1 1 1 ; prior start 7/10 3/10"
BOOK = fresh_book(CASE)
THREE = fresh_book((("a", "b", "c"), ("x", "y"), plain_setting(3, 2), (("p", row("1/2", "1/2", 0)),)))
FOUR = fresh_book((("a", "b", "c", "d"), ("x", "y"), plain_setting(4, 2), ()))
# A line of each form, for the book of the case, that changes or answers something.
LINES = (
    "pay acquit guilty 1/2", "worth convict innocent -3", "strike acquit", "order convict acquit",
    "states guilty innocent", "action defer 1/2 1/2 0 -1", "scale 2 1 0", "lift 1/2 -1 0", "keep even 1/2 1/2",
    "drop start", "undo", "redo", "choice start", "value start", "roof start", "helps start", "cheap start", "never",
    "all", "disclosed", "corners", "strip 4", "triangle 4", "show",
)
CHANGES = {
    "pay acquit guilty 1/2": ("pay", 0, 1, HALF), "worth convict innocent -3": ("worth", 1, 0, (-3, 1)),
    "strike acquit": ("strike", 0), "order convict acquit": ("order", (1, 0)),
    "states guilty innocent": ("states", (1, 0)),
    "action defer 1/2 1/2 0 -1": ("action", (HALF, HALF), (NIL, LESS), "defer"),
    "scale 2 1 0": ("scale", (2, 1), (ONE, NIL)), "lift 1/2 -1 0": ("lift", HALF, (LESS, NIL)),
    "keep even 1/2 1/2": ("keep", "even", (HALF, HALF)), "drop start": ("drop", "start"),
    "pay convict innocent 0": ("pay", 1, 0, NIL), "worth acquit guilty 000000": None,
    "keep start 4/10 6/10": ("keep", "start", row("2/5", "3/5")), "scale 6/4 2/2 -0": ("scale", (3, 2), (ONE, NIL)),
    "lift 999999/999998 -0/7 10/5": ("lift", (999999, 999998), (NIL, (2, 1))),
    "order acquit convict": ("order", (0, 1)), "action start 1 0 0 0": ("action", (ONE, NIL), (NIL, NIL), "start"),
}


def yes(is_so):
    return "yes" if is_so else "no"


def asked(book):
    """Each asking line of a book with what the functions of the other modules answer."""
    states, actions, setting, priors = sheet_in(book)
    out = {"never": yes(never_helps(setting)), "all": yes(is_all_best(setting)),
    "disclosed": yes(is_disclosed(setting))}
    out["corners"] = "\n".join(" ".join(word_of(number) for number in corner) for corner in corners(setting))
    out["show"] = sheet_text(sheet_in(book))[:-1]
    for many in (0, 1, 5, 12, 13, 60, 61, 100):
        is_strip, is_triangle = len(states) == 2 and 1 <= many <= 60, len(states) == 3 and 1 <= many <= 12
        out["strip " + str(many)] = strip(setting, many) if is_strip else "no picture"
        out["triangle " + str(many)] = triangle(setting, many) if is_triangle else "no picture"
    for name, prior in priors:
        out["choice " + name] = actions[choice(setting, prior)]
        out["value " + name] = word_of(value(setting, prior))
        out["roof " + name] = word_of(roof_at(setting, prior))
        out["helps " + name] = yes(helps(setting, prior))
        out["cheap " + name] = word_of(cheap_value(setting, prior)) if is_transparent(setting) else "not transparent"
    for word in ("choice", "value", "roof", "helps", "cheap"):
        for name in ("nobody", states[0] + "x", "START", "7", "?", "-", "states"):
            if name not in dict(priors):
                out[word + " " + name] = "no such prior"
    return out


class ConsoleCase(GivenCase):
    def assert_said(self, book, line, other, answer):
        self.assertEqual(said(book, line), (other, answer))
        self.assertEqual(said(line=line, console=book), (other, answer))

    def assert_no_form(self, line):
        """Whether a line is not understood, with a book and without one."""
        for book in (None, BOOK, THREE):
            self.assert_said(book, line, book, "not understood")


class FormsTest(ConsoleCase):
    def test_without_a_book(self):
        self.assertIsNone(fresh_console())
        for line in LINES:
            self.assert_said(None, line, None, "no sheet")
        for word in ("choice", "value", "roof", "helps", "cheap", "strike", "drop", "order", "states"):
            self.assert_said(None, word + " ?!", None, "no sheet")

    def test_with_a_book(self):
        for line in LINES:
            self.assertNotIn(said(BOOK, line)[1], ("not understood", "no sheet"))

    def test_first_words(self):
        for line in (
            "", " ", "?", "hello", "Show", "SHOW", "shows", "show!", "help", "strips 4", "undone", "redone", "quit",
            "0",
            "-", "keeps p 1 0", "sheets states a b", "\tshow", "show\t", "none", "gains 4", "drawing", "not never",
            "\u00fcndo", "show\u00a0", "all\u2003",
        ):
            self.assert_no_form(line)

    def test_words_too_many(self):
        for line in LINES:
            if line.split(" ")[0] not in ("order", "states", "action", "scale", "lift", "keep"):
                self.assert_no_form(line + " x")
                self.assert_no_form(line + " 1")
        for line in ("action defer 1/2 1/2 0 -1 x", "scale 2 1 0 x", "lift 1/2 -1 0 x", "keep even 1/2 1/2 x"):
            self.assert_no_form(line)

    def test_words_too_few(self):
        for line in (
            "sheet", "pay", "pay acquit", "pay acquit guilty", "pay 1", "worth", "worth acquit", "worth acquit guilty",
            "strike", "order", "states", "action", "action defer", "action defer 1", "scale", "scale 1", "lift",
            "lift 1",
            "keep", "keep even", "drop", "choice", "value", "roof", "helps", "cheap", "strip", "triangle",
        ):
            self.assert_no_form(line)

    def test_words_just_enough(self):
        for line in (
            "order x", "states x", "action defer 1 1", "scale 1 1", "lift 1 1", "keep even 1", "action defer 1 1 1",
            "action defer 1 1 1 1 1", "scale 1 1 1 1 1 1 1", "keep even 1 0 0", "strike ?", "drop ?", "pay ? ? 0",
        ):
            self.assert_said(None, line, None, "no sheet")
            self.assert_said(BOOK, line, BOOK, "does not fit")

    def test_blanks_in_wrong_places(self):
        for line in LINES + (OPEN,):
            for wrong in (" " + line, line + " ", line + "\n", "\n" + line):
                self.assert_no_form(wrong)
            for k, sign in enumerate(line):
                if sign == " ":
                    self.assert_no_form(line[:k] + " " + line[k:])
                    self.assert_no_form(line[:k] + "\n" + line[k + 1:])
                    self.assert_no_form(line[:k] + "\n" + line[k:])

    def test_numbers_that_are_none(self):
        for wrong in (
            "x", "01", "00", "-1", "-0", "+1", "1/2", "1.0", "1234567", "1e3", "1_0", "\u0664", "\u00b2", "0x1", "4.",
            "(4)", "4,", "-", "/", "000004", "--", "four",
        ):
            self.assert_no_form("strip " + wrong)
            self.assert_no_form("triangle " + wrong)
        for right in ("0", "999999", "61", "100000"):
            for book in (BOOK, THREE, FOUR):
                self.assert_said(book, "strip " + right, book, "no picture")
                self.assert_said(book, "triangle " + right, book, "no picture")
            self.assert_said(None, "strip " + right, None, "no sheet")

    def test_fractions_that_are_none(self):
        for wrong in (
            "x", "01", "00", "+1", "--1", "1/0", "-1/0", "1/-2", "1/", "/2", "1//2", "1/2/3", "01/2", "1/02", "1/00",
            "0/0",
            "1.0", "1e3", "1_0", "\u0661", "\u00bd", "1234567", "1/1234567", "1234567/2", "-1234567", "-", "/", "-/2",
            "1-",
            "0/-1", "1/+2", "0x1", "- 1", "(1,2)", "1/2-", "000000", "-01",
        ):
            for line in (
                "pay acquit guilty {}", "worth acquit guilty {}", "action d {} 1 0 0", "action d 1 0 {} 0",
                "scale {} 1 0",
                "scale 1 {} 0", "lift {} 1 0", "lift 1 0 {}", "keep p {} 0", "keep p 1 {}",
            ):
                self.assert_no_form(line.format(wrong))
        for right, number in (
            ("0", 0), ("-0", 0), ("0/5", 0), ("-0/5", 0), ("4/2", 2), ("-6/4", Fraction(-3, 2)), ("999999", 999999),
            ("-999999/999998", Fraction(-999999, 999998)), ("1/1", 1), ("123456/2", 61728), ("7/7", 1), ("100000/10",
            10000),
        ):
            change = ("pay", 0, 1, pair(number))
            self.assert_said(BOOK, "pay acquit guilty " + right, changed(BOOK, change), answer_of(BOOK, change))

    def test_any_word_for_a_name(self):
        odd = ("?", "ACQUIT", "acquit,", "1/2", "-", "acquit;", ";", "\u00e9", "a" * 50, "\t", "states", "\x00", "\r")
        for name in odd:
            self.assert_said(None, "choice " + name, None, "no sheet")
            self.assert_said(BOOK, "choice " + name, BOOK, "no such prior")
            for line in ("strike {}", "drop {}", "pay {} guilty 1", "pay acquit {} 1", "order {} acquit", "states {}"):
                self.assert_said(BOOK, line.format(name), BOOK, "does not fit")
        for name in ("?", "ABC", "1", "abcdefghi", "prior", "a,", "\u00e9"):
            self.assert_said(BOOK, "keep " + name + " 1 0", BOOK, "does not fit")
            self.assert_said(BOOK, "action " + name + " 1 0 0 0", BOOK, "does not fit")


def answer_of(book, change):
    return " ".join(["anew:", *work_of(book, change)])


class SheetTest(ConsoleCase):
    def test_a_sheet(self):
        self.assert_said(None, OPEN, BOOK, "2 states, 2 actions, 1 priors")
        self.assert_said(THREE, OPEN, BOOK, "2 states, 2 actions, 1 priors")
        self.assert_said(changed(BOOK, ("strike", 0)), OPEN, BOOK, "2 states, 2 actions, 1 priors")

    def test_sheets(self):
        for sheet in random_sheets(421, 20) + random_sheets(422, 20):
            line = "sheet " + " ; ".join(sheet_text(sheet).split("\n")[:-1])
            counts = f"{len(sheet[0])} states, {len(sheet[1])} actions, {len(sheet[3])} priors"
            self.assert_said(None, line, fresh_book(sheet), counts)

    def test_wrong_rows(self):
        for text, row_at in (
            ("states a", 0), ("states a b", 1), ("x", 0), ("states a b ; action x 1 1 0", 1), (";", 0), ("states", 0),
            ("states a b ; action x 1 1 0 0 ; prior p 1 1", 2), ("states a b ; action x 1 1 0 0 ; prior p 2/2 0", 2),
            ("states a b ; action x 1 1 0 0 ; action x 1 1 0 0", 2), ("states a b ; prior p 1 0", 1),
            ("states a b ; action x 1 1 0 -0", 1), ("states a b ; action x 1 1 0 0/5", 1), ("states a a", 0),
            ("states a b ; action x 1 1 0 0 ; show", 2), ("sheet states a b ; action x 1 1 0 0", 0),
        ):
            for book in (None, BOOK):
                self.assert_said(book, "sheet " + text, book, f"wrong at {row_at}")

    def test_rows_parted_in_odd_ways(self):
        # Just " ; " parts rows, found from the left; another ";" belongs to its row.
        for text, row_at in (
            ("states a b ;", 0), ("states a b ; action x 1 1 0 0 ;", 1), ("; states a b ; action x 1 1 0 0", 0),
            ("states a b; action x 1 1 0 0", 0), ("states a b ;action x 1 1 0 0", 0), ("states a b;action x 1 1 0 0",
            0),
            ("states a b ; ; action x 1 1 0 0", 1), ("states a b ; action x 1 1 0 0 ; ;", 2), ("; ; ;", 0), ("; ;", 0),
            ("states a b ; action x 1 1 0 0 ; ; prior p 1 0", 2), ("states a b ; action ; 1 1 0 0", 1),
            ("states a b ;; action x 1 1 0 0", 0), ("states a ; b", 0), ("states a b ; ; ; action x 1 1 0 0", 1),
        ):
            self.assert_said(BOOK, "sheet " + text, BOOK, f"wrong at {row_at}")
        for text in ("states a b  ; action x 1 1 0 0", "states a b ;  action x 1 1 0 0", " states a b", "states a ; "):
            self.assert_no_form("sheet " + text)

    def test_numbers_in_a_sheet_are_as_in_its_text(self):
        great = "9" * 300
        line = "sheet states a b ; action x 1 1 0 " + great
        self.assert_said(None, line, fresh_book(read_sheet("states a b\naction x 1 1 0 " + great + "\n")),
                         "2 states, 1 actions, 0 priors")
        self.assertEqual(said(None, "sheet states a b ; action x 2/2 1 0 0")[1], "wrong at 1")


class ChangesTest(ConsoleCase):
    def test_each_form(self):
        for line, change in CHANGES.items():
            if change is None:
                self.assert_no_form(line)
            else:
                self.assert_said(BOOK, line, changed(BOOK, change), answer_of(BOOK, change))
        self.assertEqual(said(BOOK, "worth convict innocent 2")[1], "anew: start")
        self.assertEqual(said(BOOK, "order convict acquit")[1], "anew:")
        self.assertEqual(said(BOOK, "keep even 1/2 1/2")[1], "anew: even")
        self.assertEqual(said(BOOK, "drop start")[1], "anew:")

    def test_any_changes(self):
        chance = random.Random(423)
        for sheet in random_sheets(424, 12, 3) + random_sheets(425, 12, 3):
            book = fresh_book(sheet)
            for change in random_changes(chance, sheet):
                self.assert_said(book, line_of(sheet, change), changed(book, change), answer_of(book, change))

    def test_what_does_not_fit(self):
        for line in (
            "pay nobody guilty 1", "pay acquit nobody 1", "pay guilty acquit 1", "pay start guilty 1",
            "worth nobody guilty 1",
            "worth acquit acquit 1", "strike nobody", "strike guilty", "strike start", "order acquit",
            "order acquit acquit",
            "order convict acquit convict", "order convict nobody", "order innocent guilty", "states guilty",
            "states guilty guilty", "states acquit convict", "states guilty innocent guilty", "action acquit 1 0 0 0",
            "action prior 1 0 0 0", "action defer 1 0", "action defer 1 0 0", "action defer 1 0 0 0 0",
            "action defer 1 0 0 0 0 0", "scale 0 1 0", "scale -1 1 0", "scale -0 1 0", "scale 1 1", "scale 1 1 0 0",
            "lift 0/3 1 0", "lift -1/2 1 0", "lift 1 1", "lift 1 1 0 0", "keep p 1", "keep p 1 0 0", "keep p 1 1",
            "keep p 2 -1", "keep p 1/2 1/3", "keep start 0 0", "keep states 1 0", "keep abcdefghi 1 0", "drop nobody",
            "drop acquit", "drop guilty", "drop p",
        ):
            self.assert_said(BOOK, line, BOOK, "does not fit")
            self.assert_said(None, line, None, "no sheet")

    def test_full_and_almost_empty_ones(self):
        priors = tuple((name, PRIOR) for name in "abcdefgh")
        full = fresh_book((("a", "b"), tuple("vwxyz"), plain_setting(2, 5), priors))
        self.assert_said(full, "action u 1 0 0 0", full, "does not fit")
        self.assert_said(full, "keep i 1 0", full, "does not fit")
        self.assertEqual(said(full, "keep h 1 0")[1], "anew: h")
        one = fresh_book((("a", "b"), ("v",), plain_setting(2), ()))
        self.assert_said(one, "strike v", one, "does not fit")
        self.assertEqual(said(one, "keep v 1 0")[1], "anew: v")

    def test_a_state_and_an_action_of_one_name(self):
        book = fresh_book((("a", "b"), ("b", "a"), COURT, (("b", PRIOR),)))
        change = ("pay", 0, 0, (7, 1))
        self.assert_said(book, "pay b a 7", changed(book, change), answer_of(book, change))
        self.assertEqual(sheet_in(said(book, "states b a")[0])[:2], (("b", "a"), ("b", "a")))

    def test_undo_and_redo(self):
        self.assert_said(BOOK, "undo", BOOK, "nothing there")
        self.assert_said(BOOK, "redo", BOOK, "nothing there")
        book = said(said(BOOK, "strike acquit")[0], "lift 2 0 0")[0]
        self.assert_said(book, "undo", undone(book), "done")
        self.assert_said(book, "redo", book, "nothing there")
        back = said(undone(book), "undo")[0]
        self.assertEqual(back[0], BOOK[0])
        self.assert_said(back, "undo", back, "nothing there")
        self.assert_said(back, "redo", again(back), "done")
        self.assertEqual(said(again(back), "redo"), (book, "done"))
        other = said(undone(book), "order convict")[0]
        self.assert_said(other, "redo", other, "nothing there")

    def test_more_than_twenty_changes(self):
        book, lines = BOOK, tuple(f"worth acquit innocent -{k}" for k in range(1, 28))
        for line in lines:
            book = said(book, line)[0]
        self.assertEqual(len(book[1]), 20)
        answers = told_all(book, ("undo",) * 21)[1]
        self.assertEqual(answers, ("done",) * 20 + ("nothing there",))
        back = told_all(book, ("undo",) * 21)[0]
        self.assertEqual(told_all(back, ("redo",) * 21), (book, ("done",) * 20 + ("nothing there",)))
        self.assertEqual(sheet_in(back)[2][1][0][0], (-7, 1))


def line_of(sheet, change):
    """The line of a change."""
    states, actions, _, _ = sheet
    word, parts = change[0], change[1:]
    if word in ("pay", "worth"):
        words = [actions[parts[0]], states[parts[1]], word_of(parts[2])]
    elif word == "strike":
        words = [actions[parts[0]]]
    elif word in ("order", "states"):
        words = [(actions if word == "order" else states)[k] for k in parts[0]]
    elif word == "action":
        words = [parts[2]] + [word_of(number) for number in parts[0] + parts[1]]
    elif word in ("scale", "lift"):
        words = [word_of(number) for number in parts[:1] + parts[1]]
    else:
        words = [parts[0]] + [word_of(number) for part in parts[1:] for number in part]
    return " ".join([word] + words)


class AskingTest(ConsoleCase):
    def test_each_asking_line(self):
        books = [fresh_book(sheet) for sheet in random_sheets(426, 9, 3) + random_sheets(427, 18, 3)]
        books.append(fresh_book((("a", "b"), ("x", "y"), (COURT[0], table([-1, -1], ["1/2", "1/2"])), (("p", PRIOR),))))
        for book in books + [BOOK, THREE, FOUR]:
            for line, answer in asked(book).items():
                self.assert_said(book, line, book, answer)

    def test_whole_answers(self):
        friend = fresh_book((("a", "b"), ("x", "y"), (COURT[0], COURT[0]), ()))
        self.assertEqual([said(friend, line)[1] for line in ("never", "all", "disclosed")], ["no", "yes", "yes"])
        self.assertEqual([said(BOOK, line)[1] for line in ("never", "all", "disclosed")], ["no", "no", "yes"])
        rivals = fresh_book((("a", "b"), ("x", "y"), (COURT[0], table([0, 1], [1, 0])), ()))
        self.assertEqual([said(rivals, line)[1] for line in ("never", "all", "disclosed")], ["yes", "no", "no"])

    def test_answers_are_those_from_nothing(self):
        chance = random.Random(428)
        for sheet in random_sheets(429, 6, 3) + [CASE]:
            book = fresh_book(sheet)
            for _ in range(6):
                line = chance.choice(["undo", "redo", "change", "change", "change"])
                if line == "change":
                    line = line_of(sheet_in(book), chance.choice(random_changes(chance, sheet_in(book))))
                book = said(book, line)[0]
                told = asked(fresh_book(sheet_in(book)))
                for line in chance.sample(sorted(told), 8):
                    self.assert_said(book, line, book, told[line])
                for (_, prior), found in zip(sheet_in(book)[3], pairs_in(book)):
                    self.assertTrue(is_pair_by_sums(sheet_in(book)[2], prior, found))

    def test_show_is_read_again(self):
        for sheet in random_sheets(430, 9):
            text = said(fresh_book(sheet), "show")[1]
            self.assertEqual(read_sheet(text + "\n"), sheet)
            self.assertEqual(said(None, "sheet " + text.replace("\n", " ; "))[0], fresh_book(sheet))


class TellAllTest(ConsoleCase):
    def test_line_by_line(self):
        chance = random.Random(431)
        for many in (0, 1, 2, 59, 60):
            lines = tuple(
                chance.choice(LINES + (OPEN, "nonsense", "sheet x", "strike nobody", "undo", "undo", "redo", "show"))
                for _ in range(many)
            )
            for book in (None, BOOK):
                here, answers = book, []
                for line in lines:
                    here, answer = said(here, line)
                    answers.append(answer)
                self.assertEqual(told_all(book, lines), (here, tuple(answers)))
                self.assertEqual(told_all(lines=lines, console=book), (here, tuple(answers)))

    def test_no_lines(self):
        self.assertEqual(told_all(None, ()), (None, ()))
        self.assertEqual(told_all(BOOK, ()), (BOOK, ()))

    def test_against_books(self):
        lines = (OPEN, "strike convict", "undo", "redo", "redo", "undo", "undo", "keep p 1/3 2/3", "roof p")
        book, answers = told_all(None, lines)
        self.assertEqual(answers, (
            "2 states, 2 actions, 1 priors", answer_of(BOOK, ("strike", 1)), "done", "done", "nothing there", "done",
            "nothing there", "anew: p", "1",
        ))
        self.assertEqual(book, changed(BOOK, ("keep", "p", row("1/3", "2/3"))))
        self.assertRaises(NothingToRedo, again, book)
        self.assertRaises(NothingToUndo, undone, BOOK)
        self.assertRaises(InvalidDeed, changed, BOOK, ("strike", 2))


class ErrorsTest(ConsoleCase):
    def test_no_text(self):
        for wrong in anything() + [b"show", ["show"], ("show",)]:
            if not isinstance(wrong, str):
                for book in (None, BOOK):
                    self.assert_told(InvalidLines, "index", None, said, book, wrong)
                    self.assert_told(InvalidLines, "index", None, said, line=wrong, console=book)

    def assert_lines(self, index, lines):
        for book in (None, BOOK):
            self.assert_told(InvalidLines, "index", index, told_all, book, lines)
            self.assert_told(InvalidLines, "index", index, told_all, lines=lines, console=book)

    def test_no_tuple_of_up_to_sixty(self):
        for wrong in ([], ["show"], "show", {"show": 1}, None, ("show",) * 61, (None,) * 61, ("show",) * 999, Odd()):
            self.assert_lines(None, wrong)
        for wrong in anything():
            if not isinstance(wrong, tuple) or len(wrong) > 60:
                self.assert_lines(None, wrong)

    def test_the_first_that_is_no_text(self):
        for thing in anything() + [b"show", ["show"], ("show",)]:
            if not isinstance(thing, str):
                self.assert_lines(0, (thing,))
                self.assert_lines(2, ("show", "", thing, thing, "show"))
                self.assert_lines(59, ("undo",) * 59 + (thing,))

    def test_nothing_is_changed(self):
        kept = fresh_book(CASE)
        for line in LINES + (OPEN, "nonsense"):
            said(BOOK, line)
        self.assertEqual(BOOK, kept)
        given = ["show", ["undo"]]
        self.assert_lines(None, given)
        self.assertEqual(given, ["show", ["undo"]])

    def test_interface(self):
        self.assert_interface(console, {
            "fresh_console": "", "said": "console line", "told_all": "console lines",
        })


if __name__ == "__main__":
    unittest.main()
