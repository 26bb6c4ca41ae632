import random
import unittest
from fractions import Fraction

from persuasion import books
from persuasion.books import again, changed, fresh_book, pairs_in, sheet_in, undone, work_of
from persuasion.deeds import led_pair
from persuasion.errors import InvalidBook, InvalidDeed, NothingToRedo, NothingToUndo
from persuasion.roofs import roof_at
from persuasion.sheets import is_sheet
from samples import (
    COURT, HALF, LESS, NIL, ONE, PRIOR, THIRD, WRONG_BELIEFS, GivenCase, Odd, anything, as_lists, at, number_of, pair,
    plain_setting, put, row,
)
from sheet_samples import (
    BEST, CASE, DEEDS, LETTERS, PAIR, PLAIN, is_pair_by_sums, led_pair_by_words, led_row_by_words, random_changes,
    random_sheets, sheet_by_words, wrong_deeds,
)

BOOK = fresh_book(CASE)
HARSH = ("worth", 1, 0, (2, 1))


def numbered(many):
    """A book with so many changes: each one makes a worth a number of its own."""
    book, told = BOOK, [BOOK[0]]
    for k in range(many):
        book = changed(book, ("worth", 0, 0, (-k - 1, 1)))
        told.append(book[0])
    return book, told


class BookCase(GivenCase):
    def assert_pairs(self, book):
        """Whether the book has a pair for each prior, which tells the roof of the setting that there is."""
        self.assertEqual(len(book), 3)
        _, _, setting, priors = sheet_in(book)
        self.assertIs(is_sheet(sheet_in(book)), True)
        self.assertEqual(book[0], (sheet_in(book), pairs_in(book)))
        self.assertEqual(len(pairs_in(book)), len(priors))
        for (_, prior), told in zip(priors, pairs_in(book)):
            self.assertTrue(is_pair_by_sums(setting, prior, told))
            self.assertEqual(pair(at(told[1], prior)), roof_at(setting, prior))

    def work_by_words(self, book, change):
        """The names of the priors whose pairs the change does not leave, from the words of point 28."""
        _, _, setting, priors = sheet_in(book)
        if change[0] == "keep":
            return (change[1],)
        if change[0] == "drop":
            return ()
        deed, out = (change[:3] if change[0] == "action" else change), []
        other = sheet_by_words(sheet_in(book), change)[2]
        for (name, prior), told in zip(priors, pairs_in(book)):
            led = led_row_by_words(deed, prior)
            if not is_pair_by_sums(other, led, led_pair_by_words(deed, told)):
                out.append(name)
        return tuple(out)

    def assert_change(self, book, change):
        """Holds the book behind a change, and its work, against the words; returns the book."""
        other, work = changed(book, change), work_of(book, change)
        self.assertEqual(sheet_in(other), sheet_by_words(sheet_in(book), change))
        self.assertEqual(other[1], (book[1] + (book[0],))[-20:])
        self.assertEqual(other[2], ())
        self.assert_pairs(other)
        self.assertEqual(work, self.work_by_words(book, change))
        ahead = {name: told for (name, _), told in zip(sheet_in(book)[3], pairs_in(book))}
        deed = change[:3] if change[0] == "action" else change
        for (name, _), told in zip(sheet_in(other)[3], pairs_in(other)):
            if name not in work:
                self.assertEqual(told, led_pair_by_words(deed, ahead[name]))
        self.assertEqual(changed(change=change, book=book), other)
        self.assertEqual(work_of(change=change, book=book), work)
        return other


class FreshTest(BookCase):
    def test_fresh_books(self):
        for sheet in random_sheets(331, 30) + random_sheets(332, 30) + [CASE, PLAIN]:
            book = fresh_book(sheet)
            self.assertEqual(book[1:], ((), ()))
            self.assertEqual(sheet_in(book), sheet)
            self.assertEqual(sheet_in(book=book), sheet)
            self.assertEqual(pairs_in(book=book), pairs_in(book))
            self.assertEqual(fresh_book(sheet=sheet), book)
            self.assert_pairs(book)

    def test_by_hand(self):
        self.assertEqual(BOOK, ((CASE, (PAIR,)), (), ()))


class ChangesTest(BookCase):
    def test_all_kinds_in_a_row(self):
        chance, kinds = random.Random(333), {}
        for sheet in random_sheets(334, 18, 3) + random_sheets(335, 18, 3):
            book = fresh_book(sheet)
            for _ in range(3):
                change = chance.choice(random_changes(chance, sheet_in(book)))
                kinds.setdefault(change[0], []).append(work_of(book, change))
                book = self.assert_change(book, change)
        self.assertEqual(len(kinds), 10)

    def test_each_kind(self):
        chance = random.Random(336)
        for sheet in random_sheets(337, 8, 3):
            book = fresh_book(sheet)
            for change in random_changes(chance, sheet):
                other = self.assert_change(book, change)
                if change[0] in ("order", "states", "scale", "lift", "drop"):
                    self.assertEqual(work_of(book, change), ())
                self.assertEqual(undone(other)[0], book[0])

    def test_names_are_led_along(self):
        self.assertEqual(sheet_in(changed(BOOK, ("strike", 0)))[1], ("convict",))
        self.assertEqual(sheet_in(changed(BOOK, ("order", (1, 0))))[1], ("convict", "acquit"))
        told = sheet_in(changed(BOOK, ("states", (1, 0))))
        self.assertEqual([told[0], told[3]], [("guilty", "innocent"), (("start", PRIOR[::-1]),)])
        told = sheet_in(changed(BOOK, ("action", (HALF, HALF), (NIL, LESS), "defer")))
        self.assertEqual(told[1], ("acquit", "convict", "defer"))

    def test_pairs_that_are_kept_and_that_come_anew(self):
        # Whichever pairs there are of these two priors, they are left by just these changes.
        book = changed(BOOK, ("keep", "even", (HALF, HALF)))
        self.assertEqual([name for name, _ in sheet_in(book)[3]], ["even", "start"])
        for change, work in (
            (HARSH, ("even", "start")), (("worth", 0, 1, LESS), ()), (("worth", 0, 0, LESS), ("start",)),
            (("pay", 1, 1, (1, 2)), ("even", "start")), (("states", (1, 0)), ()),
            (("lift", (3, 1), (ONE, LESS)), ()), (("scale", HALF, (ONE, LESS)), ()), (("order", (1, 0)), ()),
            (("keep", "start", PRIOR), ("start",)), (("keep", "late", PRIOR), ("late",)), (("drop", "even"), ()),
        ):
            self.assertEqual(work_of(book, change), work)
            self.assert_change(book, change)
        self.assertEqual(work_of(BOOK, HARSH), ("start",))
        self.assertEqual(number_of(roof_at(sheet_in(changed(BOOK, HARSH))[2], PRIOR)), Fraction(9, 10))

    def test_keep(self):
        book = self.assert_change(BOOK, ("keep", "start", (HALF, HALF)))
        self.assertEqual(sheet_in(book)[3], (("start", (HALF, HALF)),))
        book = self.assert_change(BOOK, ("keep", "last", (HALF, HALF)))
        self.assertEqual(sheet_in(book)[3], (("last", (HALF, HALF)), ("start", PRIOR)))
        self.assertEqual(pairs_in(book)[1], PAIR)
        book = self.assert_change(BOOK, ("keep", "start", PRIOR))
        self.assertEqual(sheet_in(book), CASE)

    def test_the_ninth_name(self):
        book = fresh_book(CASE[:3] + ((),))
        for k in range(8):
            book = self.assert_change(book, ("keep", LETTERS[k], row(Fraction(k, 9), 1 - Fraction(k, 9))))
        self.assertEqual(len(pairs_in(book)), 8)
        ninth = ("keep", "z", PRIOR)
        self.assert_given(InvalidDeed, ninth, changed, book, ninth)
        self.assert_given(InvalidDeed, ninth, work_of, book, ninth)
        book = self.assert_change(book, ("keep", "d", PRIOR))
        self.assert_given(InvalidDeed, ninth, changed, book, ninth)
        book = self.assert_change(self.assert_change(book, ("drop", "d")), ninth)
        self.assertEqual([name for name, _ in sheet_in(book)[3]], ["a", "b", "c", "e", "f", "g", "h", "z"])

    def test_drop(self):
        book = self.assert_change(BOOK, ("drop", "start"))
        self.assertEqual([sheet_in(book)[3], pairs_in(book)], [(), ()])
        for wrong in (("drop", "start"), ("drop", "acquit"), ("drop", "")):
            self.assert_given(InvalidDeed, wrong, changed, book, wrong)

    def test_a_name_of_an_action_that_was_struck(self):
        book = self.assert_change(BOOK, ("strike", 0))
        book = self.assert_change(book, ("action", (ONE, NIL), (NIL, NIL), "acquit"))
        self.assertEqual(sheet_in(book)[1], ("convict", "acquit"))
        wrong = ("action", (ONE, NIL), (NIL, NIL), "convict")
        self.assert_given(InvalidDeed, wrong, changed, book, wrong)


class UndoTest(BookCase):
    def test_there_and_back(self):
        chance = random.Random(338)
        for sheet in random_sheets(339, 9, 2) + [CASE]:
            book, seen = fresh_book(sheet), []
            for _ in range(5):
                seen.append(book)
                book = changed(book, chance.choice(random_changes(chance, sheet_in(book))))
            seen.append(book)
            for k in range(5, 0, -1):
                back = undone(seen[k])
                self.assertEqual(back, (seen[k - 1][0], seen[k - 1][1], (seen[k][0],)))
                self.assertEqual(again(back), seen[k])
            here = book
            for k in range(5):
                here = undone(book=here)
                self.assertEqual(here[0], seen[4 - k][0])
                self.assertEqual(here[1], seen[4 - k][1])
                self.assertEqual(here[2], tuple(told[0] for told in seen[5 - k:]))
            self.assertRaises(NothingToUndo, undone, here)
            for k in range(5):
                here = again(book=here)
                self.assertEqual([here[0], here[1]], [seen[k + 1][0], seen[k + 1][1]])
            self.assertEqual(here, book)
            self.assertRaises(NothingToRedo, again, here)

    def test_more_than_twenty(self):
        for many in (19, 20, 21, 22, 45):
            book, told = numbered(many)
            self.assertEqual(book[1], tuple(told[:-1][-20:]))
            self.assertEqual(book[2], ())
            steps = min(many, 20)
            for k in range(steps):
                book = undone(book)
                self.assertEqual(book[0], told[-2 - k])
                self.assertEqual(book[2], tuple(told[-1 - k:]))
            self.assertEqual(book[1], ())
            self.assertRaises(NothingToUndo, undone, book)
            for k in range(steps):
                book = again(book)
            self.assertEqual(book, numbered(many)[0])
            self.assertRaises(NothingToRedo, again, book)

    def test_a_change_clears_what_was_undone(self):
        book, told = numbered(3)
        back = undone(undone(book))
        self.assertEqual(len(back[2]), 2)
        for change in (HARSH, ("order", (0, 1)), ("keep", "p", PRIOR), ("drop", "start"), ("lift", ONE, (NIL, NIL))):
            other = self.assert_change(back, change)
            self.assertEqual(other[1:], (tuple(told[:2]), ()))
            self.assertRaises(NothingToRedo, again, other)

    def test_a_change_that_changes_nothing_is_one(self):
        for change in (("order", (0, 1)), ("scale", ONE, (NIL, NIL)), ("pay", 0, 0, ONE)):
            other = self.assert_change(BOOK, change)
            self.assertEqual([other[0], other[1]], [BOOK[0], (BOOK[0],)])

    def test_pairs_come_back_word_for_word(self):
        odd = (BEST, (NIL, (2, 1)))
        book = changed(BOOK, HARSH)
        self.assertNotEqual(pairs_in(book), (odd,))
        self.assertEqual(pairs_in(undone(book)), (odd,))
        book = changed(changed(BOOK, ("states", (1, 0))), ("states", (1, 0)))
        self.assertEqual(pairs_in(book), (odd,))
        led = changed(BOOK, ("lift", (3, 1), (ONE, LESS)))
        self.assertEqual(pairs_in(led), (led_pair(COURT, ("lift", (3, 1), (ONE, LESS)), PRIOR, PAIR),))

    def test_errors_without_attributes(self):
        for kind, call in ((NothingToUndo, undone), (NothingToRedo, again)):
            with self.assertRaises(kind) as caught:
                call(BOOK)
            self.assertIs(type(caught.exception), kind)
            self.assertEqual(vars(caught.exception), {})


class ErrorsTest(BookCase):
    def wrong_changes(self):
        """For the book of the case: deeds that do not fit, and each part of the other changes broken alone."""
        bare = ("action", (HALF, HALF), (NIL, LESS))
        names = ("", "A", "states", "action", "prior", "abcdefghi", "a1", "a b", None, 0, True, b"a", ["a"], Odd())
        out = wrong_deeds() + [bare] + [bare + (name,) for name in names + ("acquit", "convict")] + [bare + ("a", "b")]
        out += [("action", (HALF, HALF), (NIL,), "a"), ("action", [HALF, HALF], (NIL, NIL), "a"), ("action", "a")]
        out += [("keep", name, PRIOR) for name in names] + [("keep", "p", wrong) for wrong in WRONG_BELIEFS]
        out += [("keep", "p"), ("keep", "p", PRIOR, PRIOR), ("keep",), ["keep", "p", PRIOR], ("keep", PRIOR, "p")]
        out += [("keep", "start", wrong) for wrong in ((ONE, ONE), None, Odd())] + [("Keep", "p", PRIOR)]
        out += [("drop", name) for name in names + ("p", "acquit", "guilty")] + [("drop",), ("drop", "start", "start")]
        return out + [["drop", "start"], "drop", ("drop start",), (Odd(), "start")]

    def test_changes_that_do_not_fit(self):
        for wrong in self.wrong_changes():
            for call in (changed, work_of):
                self.assert_given(InvalidDeed, wrong, call, BOOK, wrong)
                self.assert_given(InvalidDeed, wrong, call, change=wrong, book=BOOK)
        self.assertEqual(BOOK, fresh_book(CASE))

    def test_changes_that_fit(self):
        for deed in DEEDS:
            change = deed + ("name",) if deed[0] == "action" else deed
            self.assert_change(BOOK, change)
        for name in ("innocent", "start", "a", "abcdefgh"):
            self.assert_change(BOOK, ("action", (HALF, HALF), (NIL, LESS), name))
            self.assert_change(BOOK, ("keep", name, (THIRD, (2, 3))))

    def test_no_room(self):
        full = fresh_book((("a", "b"), tuple("vwxyz"), plain_setting(2, 5), ()))
        wrong = ("action", (ONE, ONE), (NIL, NIL), "u")
        self.assert_given(InvalidDeed, wrong, changed, full, wrong)
        one = fresh_book((("a", "b"), ("v",), plain_setting(2), ()))
        wrong = ("strike", 0)
        self.assert_given(InvalidDeed, wrong, changed, one, wrong)
        self.assert_given(InvalidDeed, wrong, work_of, one, wrong)

    def test_no_sheet(self):
        for index, wrong in (
            (None, CASE[:3]), (None, list(CASE)), (None, as_lists(CASE)), (None, None), (0, put(CASE, (0,), ("a",))),
            (1, put(CASE, (1,), ())), (2, put(CASE, (2,), None)), (2, put(CASE, (2,), plain_setting(3, 2))),
            (3, put(CASE, (3,), None)), (3, put(CASE, (3,), (("p", (ONE, ONE)),))), (None, Odd()), (None, BOOK[:2]),
        ):
            self.assert_told(InvalidBook, "index", index, fresh_book, wrong)
            self.assert_told(InvalidBook, "index", index, fresh_book, sheet=wrong)
        for thing in anything():
            self.assert_told(InvalidBook, "index", None, fresh_book, thing)
            self.assert_told(InvalidBook, "index", 0, fresh_book, (thing,) * 4)

    def test_nothing_is_changed(self):
        book, _ = numbered(3)
        kept = numbered(3)[0]
        for call in (undone, sheet_in, pairs_in):
            call(book)
        changed(book, HARSH)
        self.assertEqual(book, kept)
        given = ["keep", ["p"]]
        self.assert_given(InvalidDeed, given, changed, book, given)
        self.assertEqual(given, ["keep", ["p"]])

    def test_interface(self):
        self.assert_interface(books, {
            "fresh_book": "sheet", "sheet_in": "book", "pairs_in": "book", "changed": "book change",
            "work_of": "book change", "undone": "book", "again": "book",
        })


if __name__ == "__main__":
    unittest.main()
