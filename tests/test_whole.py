"""One setting through all modules: they tell the same numbers."""

import random
import unittest
from fractions import Fraction

from claim_samples import accepts_by_words
from persuasion.books import changed, fresh_book, pairs_in, sheet_in, undone, work_of
from persuasion.cells import corners
from persuasion.certificates import (
    certify_all_told, certify_cheap, certify_choice, certify_disclosed, certify_helps, certify_never, certify_private,
    certify_public, certify_read, certify_roof, certify_roofs,
)
from persuasion.checker import accepts
from persuasion.cheap import cheap_value, is_transparent
from persuasion.console import said, told_all
from persuasion.deeds import behind, is_pair, leaves, led_pair, led_prior
from persuasion.design import best_private, best_public
from persuasion.disclosure import is_disclosed
from persuasion.experiments import experiment_of, split_of, split_worth
from persuasion.games import as_game
from persuasion.pictures import drawing, gains, strip, triangle
from persuasion.planes import height, is_above
from persuasion.roofs import best_split, least_plane, roof, roof_at
from persuasion.settings import choice, value
from persuasion.sheets import read_sheet, sheet_text
from persuasion.telling import gain, helps, is_all_best, never_helps
from samples import COURT, GivenCase, at, number_of, numbers, pair, row, table
from sheet_samples import CASE, random_changes, random_sheets, word_of
from test_console import line_of


def yes(is_so):
    return "yes" if is_so else "no"


class NumbersTest(GivenCase):
    def assert_one_number(self, setting, prior):
        """Whether all ways to the roof at a prior tell one number, which is returned."""
        number = roof_at(setting, prior)
        split, plane = best_split(setting, prior), least_plane(setting, prior)
        self.assertEqual(split_worth(setting, prior, split), number)
        self.assertEqual(height(setting, plane, prior), number)
        self.assertIs(is_above(setting, plane), True)
        self.assertIs(is_pair(setting, prior, (split, plane)), True)
        self.assertEqual(min(at(each, prior) for each in roof(setting)), number_of(number))
        experiment = experiment_of(setting, prior, split)
        self.assertLessEqual(len(experiment[0]), len(prior))
        self.assertEqual(split_of(setting, prior, experiment), split)
        self.assertEqual(number_of(number) - number_of(value(setting, prior)), number_of(gain(setting, prior)))
        if len(setting[0]) <= 3 and len(prior) <= 3:
            game = as_game(setting)
            for call, certify in ((best_private, certify_private), (best_public, certify_public)):
                self.assertEqual(call(game, prior)[0], number)
                self.assertEqual(certify(game, prior)[0][3], number)
        return number

    def assert_papers(self, setting, prior):
        """Whether the papers tell the numbers that the modules tell, and are accepted."""
        made = {
            "roof": certify_roof(setting, prior), "helps": certify_helps(setting, prior),
            "never": certify_never(setting), "all": certify_all_told(setting), "choice": certify_choice(setting, prior),
            "disclosed": certify_disclosed(setting),
        }
        if is_transparent(setting):
            made["cheap"] = certify_cheap(setting, prior)
            self.assertEqual(made["cheap"][0][3], cheap_value(setting, prior))
        for claim, paper in made.values():
            self.assertIs(accepts(claim, paper), True)
            self.assertIs(accepts_by_words(claim, paper), True)
        self.assertEqual(made["roof"][0][3], roof_at(setting, prior))
        self.assertEqual(made["choice"][0][3], choice(setting, prior))
        self.assertIs(made["helps"][0][0] == "helps at", helps(setting, prior))
        self.assertIs(made["never"][0][0] == "never helps", never_helps(setting))
        self.assertIs(made["all"][0][0] == "all told best", is_all_best(setting))
        self.assertIs(made["disclosed"][0][0] == "disclosed", is_disclosed(setting))

    def assert_console(self, book):
        """Whether the console answers what the modules tell of the book's sheet."""
        states, actions, setting, priors = sheet_in(book)
        for name, prior in priors:
            answers = {
                "roof": word_of(roof_at(setting, prior)), "value": word_of(value(setting, prior)),
                "choice": actions[choice(setting, prior)], "helps": yes(helps(setting, prior)),
                "cheap": word_of(cheap_value(setting, prior)) if is_transparent(setting) else "not transparent",
            }
            for word, answer in answers.items():
                self.assertEqual(said(book, f"{word} {name}"), (book, answer))
        self.assertEqual(said(book, "never")[1], yes(never_helps(setting)))
        self.assertEqual(said(book, "all")[1], yes(is_all_best(setting)))
        self.assertEqual(said(book, "disclosed")[1], yes(is_disclosed(setting)))
        self.assertEqual(said(book, "strip 5")[1], strip(setting, 5) if len(states) == 2 else "no picture")
        self.assertEqual(said(book, "triangle 5")[1], triangle(setting, 5) if len(states) == 3 else "no picture")

    def test_through_all_modules(self):
        chance = random.Random(491)
        for sheet in random_sheets(492, 9, 2) + random_sheets(493, 9, 2) + [CASE]:
            text = sheet_text(sheet)
            self.assertEqual(certify_read(text)[0], ("read", text, sheet))
            book = fresh_book(read_sheet(text))
            self.assertEqual(said(None, "sheet " + " ; ".join(text.split("\n")[:-1]))[0], book)
            for _ in range(3):
                setting, priors = sheet_in(book)[2:]
                for (_, prior), told in zip(priors, pairs_in(book)):
                    number = self.assert_one_number(setting, prior)
                    self.assertEqual(pair(at(told[1], prior)), number)
                    self.assertEqual(split_worth(setting, prior, told[0]), number)
                    self.assert_papers(setting, prior)
                self.assert_console(book)
                change = chance.choice(random_changes(chance, sheet_in(book)))
                self.assert_deed(book, change)
                other = said(book, line_of(sheet_in(book), change))[0]
                self.assertEqual(other, changed(book, change))
                self.assertEqual(undone(other)[0], book[0])
                book = other

    def assert_deed(self, book, change):
        """Whether what a deed leaves of a book's pairs is what the work and the papers tell."""
        if change[0] in ("keep", "drop"):
            return
        _, _, setting, priors = sheet_in(book)
        deed, anew = (change[:3] if change[0] == "action" else change), []
        for (name, prior), told in zip(priors, pairs_in(book)):
            led, other = led_prior(setting, deed, prior), behind(setting, deed)
            claim, _ = certify_roofs(setting, deed, prior)
            if leaves(setting, deed, prior, told):
                self.assertIs(is_pair(other, led, led_pair(setting, deed, prior, told)), True)
                self.assertEqual(claim[0], "same roof")
                self.assertIs(accepts(claim, (told, led_pair(setting, deed, prior, told))), True)
            else:
                anew.append(name)
        self.assertEqual(work_of(book, change), tuple(anew))

    def test_pictures_of_one_setting(self):
        for many in (1, 10, 60):
            beliefs = [row(1 - Fraction(k, many), Fraction(k, many)) for k in range(many + 1)]
            self.assertEqual(strip(COURT, many), "".join(str(choice(COURT, belief)) for belief in beliefs))
            self.assertEqual(gains(COURT, many), "".join("+" if helps(COURT, belief) else "." for belief in beliefs))
        for corner in corners(COURT):
            x, y = 300 * numbers(corner)[1], 200 - 200 * number_of(roof_at(COURT, corner))
            self.assertIn(f"{x},{y}", drawing(COURT))

    def test_a_long_talk(self):
        lines = ["sheet " + " ; ".join(sheet_text(CASE).split("\n")[:-1])]
        lines += [f"keep {name} {9 - k}/9 {k}/9" for k, name in enumerate("abcdefg")]
        lines += ["lift 2 1 0", "scale 3 0 1", "states guilty innocent", "order convict acquit"]
        book, answers = told_all(None, tuple(lines))
        self.assertEqual(answers[1:], tuple(f"anew: {name}" for name in "abcdefg") + ("anew:",) * 4)
        self.assertEqual(sheet_in(book)[0], ("guilty", "innocent"))
        for k, name in enumerate("abcdefg"):
            # By hand: the roof is twice the chance of guilt, up to 1; then twice it and the chance of innocence.
            guilt = Fraction(k, 9)
            number = 2 * min(2 * guilt, Fraction(1)) + 1 - guilt
            self.assertEqual(said(book, "roof " + name)[1], word_of(pair(number)))
        self.assert_console(book)

    def test_whatever_the_size(self):
        # What was returned may be passed again, whatever the size of its numbers.
        great = 10 ** 399 + 7
        tiny = Fraction(1, great)
        setting = (table([tiny, 0], [0, great]), table([0, Fraction(great, 3)], [great, -tiny]))
        prior = row(tiny, 1 - tiny)
        self.assert_one_number(setting, prior)
        for corner in corners(setting):
            self.assert_one_number(setting, corner)
        claim, paper = certify_roof(setting, prior)
        self.assertIs(accepts(claim, paper), True)


if __name__ == "__main__":
    unittest.main()
