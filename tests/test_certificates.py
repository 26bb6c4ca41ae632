import random
import unittest
from fractions import Fraction

from claim_samples import accepts_by_words, is_game, is_setting
from game_samples import (
    BEYOND, CALLS, CALLS_PRIOR, HALF, KEPT, games_for, obedient_outcome, odd_games, random_outcome, random_table_of,
    sizes_of,
)
from persuasion import certificates
from persuasion.certificates import (
    certify_above, certify_all_told, certify_bring, certify_change, certify_cheap, certify_choice, certify_disclosed,
    certify_helps, certify_never, certify_obedient, certify_private, certify_public, certify_read, certify_roof,
    certify_roofs, certify_split,
)
from persuasion.cheap import cheap_value
from persuasion.checker import accepts
from persuasion.deeds import behind, fits, led_prior
from persuasion.design import best_private, best_public, bring
from persuasion.disclosure import is_disclosed
from persuasion.errors import (
    InvalidBelief, InvalidDeed, InvalidGame, InvalidOutcome, InvalidPlane, InvalidSetting, InvalidSplit, InvalidText,
    InvalidWishes, NotTransparent,
)
from persuasion.experiments import split_worth
from persuasion.games import breach, is_obedient
from persuasion.planes import is_above
from persuasion.roofs import roof_at
from persuasion.settings import choice
from persuasion.telling import helped, helps, is_all_best, never_helps
from samples import (
    COURT, IDLE, NIL, ONE, PRIOR, WRONG_BELIEFS, WRONG_SETTINGS, GivenCase, Odd, anything, as_lists, at, near_settings,
    number_of, pair, plain_setting, priors_for, put, random_settings, random_split, row, table, with_worths,
)
from sheet_samples import (
    BEST, CASE, PAIR, led_row_by_words, random_deeds, random_row_of, random_sheets, text_by_words, wrong_deeds,
)

FRIEND, FOE = (COURT[0], COURT[0]), (COURT[0], table([-1, 0], [0, -1]))


def settings_for(seed, many):
    return random_settings(seed, many) + near_settings(seed + 1, many)


class CertifyCase(GivenCase):
    def assert_claim(self, word, call, *args, told=()):
        """Whether the claim has this word, the arguments as they were passed, what is told, and a right paper."""
        both = call(*args)
        self.assertEqual((type(both), len(both)), (tuple, 2))
        claim, paper = both
        self.assertEqual(claim[0], word)
        self.assertEqual(len(claim), 1 + len(args) + len(told))
        for part, given in zip(claim[1:], args):
            self.assertIs(part, given)
        self.assertEqual(claim[1 + len(args):], told)
        self.assertIs(accepts(claim, paper), True)
        self.assertIs(accepts_by_words(claim, paper), True)
        self.assertEqual(call(*args), both)
        names = call.__code__.co_varnames[:call.__code__.co_argcount]
        self.assertEqual(call(**dict(reversed(list(zip(names, args))))), both)
        return paper


class SettingsTest(CertifyCase):
    def test_splits(self):
        chance = random.Random(461)
        for setting in settings_for(462, 30):
            prior, split = random_split(chance, len(setting[0][0]), chance.randint(1, 4))
            self.assert_claim("split", certify_split, setting, prior, split, told=(split_worth(setting, prior, split),))

    def test_cheap_talk(self):
        chance, several = random.Random(463), 0
        for setting in settings_for(464, 30):
            states = len(setting[0][0])
            level = (setting[0], tuple(told[:1] * states for told in setting[1]))
            for prior in priors_for(chance, states, 1):
                number = cheap_value(level, prior)
                _, barriers = self.assert_claim("cheap", certify_cheap, level, prior, told=(number,))
                greater = set(number_of(told[0]) for told in level[1] if number_of(told[0]) > number_of(number))
                self.assertEqual(len(barriers), len(greater))
                several += len(barriers) > 1
        self.assertGreater(several, 5)

    def test_disclosure(self):
        words = []
        for setting in settings_for(465, 30):
            for told in (setting, with_worths(setting, "foe")):
                words.append("disclosed" if is_disclosed(told) else "not disclosed")
                self.assert_claim(words[-1], certify_disclosed, told)
        self.assertGreater(min(words.count(word) for word in set(words)), 10)

    def test_roofs_and_helping(self):
        chance, words = random.Random(466), []
        for setting in settings_for(467, 30):
            for prior in priors_for(chance, len(setting[0][0]), 2):
                number = roof_at(setting, prior)
                split, plane, _ = self.assert_claim("roof at", certify_roof, setting, prior, told=(number,))
                self.assertEqual(at(plane, prior), number_of(number))
                words.append("helps at" if helps(setting, prior) else "does not help at")
                self.assert_claim(words[-1], certify_helps, setting, prior)
                self.assert_claim("choice", certify_choice, setting, prior, told=(choice(setting, prior),))
        self.assertGreater(min(words.count(word) for word in set(words)), 30)

    def test_planes(self):
        chance, words = random.Random(468), []
        for setting in settings_for(469, 30):
            states = len(setting[0][0])
            for plane in (random_row_of(chance, states), row(*[5] * states), row(*[chance.randint(0, 4)] * states)):
                words.append("above" if is_above(setting, plane) else "not above")
                self.assert_claim(words[-1], certify_above, setting, plane)
        self.assertGreater(min(words.count(word) for word in set(words)), 30)

    def test_never_helps(self):
        words = []
        for setting in settings_for(470, 30):
            for told in (setting, with_worths(setting, "foe"), with_worths(setting, "friend")):
                prior = helped(told)
                if never_helps(told):
                    words.append("never helps")
                    paper = self.assert_claim("never helps", certify_never, told)
                    self.assertEqual(len(paper), len(told[0]))
                    words.extend(word for word, _ in paper)
                else:
                    words.append("helps at")
                    self.assert_claim("helps at", certify_never, told, told=(prior,))
        self.assertGreater(min(words.count(word) for word in ("never helps", "helps at", "above", "under")), 20)

    def test_all_told(self):
        words = []
        for setting in settings_for(471, 30):
            for told in (setting, with_worths(setting, "friend")):
                words.append("all told best" if is_all_best(told) else "not all told best")
                self.assert_claim(words[-1], certify_all_told, told)
        self.assertGreater(min(words.count(word) for word in set(words)), 15)

    def test_great_numbers(self):
        great = 10 ** 200 + 7
        setting = (table([Fraction(1, great), 0], [0, great]), table([0, 1], [great, Fraction(-1, great)]))
        prior = row(Fraction(1, great), 1 - Fraction(1, great))
        for call in (certify_roof, certify_helps, certify_choice):
            claim, paper = call(setting, prior)
            self.assertIs(accepts_by_words(claim, paper), True)
            self.assertIs(accepts(claim, paper), True)
        for call in (certify_never, certify_all_told, certify_disclosed):
            self.assertIs(accepts(*call(setting)), True)

    def test_by_hand(self):
        self.assertEqual(certify_roof(COURT, PRIOR), (("roof at", COURT, PRIOR, (3, 5)), PAIR + (
            ((NIL, NIL), (ONE, NIL)),)))
        self.assertEqual(certify_never(COURT)[0], ("helps at", COURT, ((3, 4), (1, 4))))
        self.assertEqual([certify_never(each)[0] for each in (FOE, FRIEND)], [
            ("never helps", FOE), ("helps at", FRIEND, ((3, 4), (1, 4)))])
        self.assertEqual(certify_cheap(COURT, PRIOR)[0], ("cheap", COURT, PRIOR, NIL))


class DeedsTest(CertifyCase):
    def test_changes(self):
        chance = random.Random(472)
        for setting in settings_for(473, 24):
            for deed in random_deeds(chance, setting):
                self.assert_claim("change", certify_change, setting, deed, told=(behind(setting, deed),))
                for wrong in (deed[:-1], deed + deed[-1:], ("strike", 5), (deed[0].upper(),) + deed[1:]):
                    self.assertIs(fits(setting, wrong), False)
                    self.assert_claim("no change", certify_change, setting, wrong)

    def test_whatever_it_is(self):
        for thing in wrong_deeds():
            claim, paper = certify_change(COURT, thing)
            self.assertEqual((claim[0], len(claim), paper), ("no change", 3, ()))
            self.assertIs(claim[2], thing)
            self.assertIs(accepts(claim, paper), True)

    def test_roofs(self):
        chance, words = random.Random(474), {}
        for setting in settings_for(475, 24):
            for deed in random_deeds(chance, setting):
                for prior in priors_for(chance, len(setting[0][0]), 0)[1:]:
                    led, other = led_row_by_words(deed, prior), behind(setting, deed)
                    self.assertEqual(led_prior(setting, deed, prior), led)
                    number = number_of(roof_at(setting, prior))
                    if deed[0] == "lift":
                        number = number_of(deed[1]) * number + at(deed[2], prior)
                    word = "same roof" if roof_at(other, led) == pair(number) else "other roof"
                    words.setdefault(deed[0], []).append(word)
                    self.assert_claim(word, certify_roofs, setting, deed, prior)
        for word in ("order", "states", "scale", "lift"):
            self.assertEqual(set(words[word]), {"same roof"})
        for word in ("pay", "worth", "action", "strike"):
            self.assertEqual(set(words[word]), {"same roof", "other roof"})


class GamesTest(CertifyCase):
    def test_obedience(self):
        chance, words = random.Random(476), []
        for game, prior in games_for(477, 2):
            for outcome in (
                random_outcome(chance, sizes_of(game[0]), prior),
                obedient_outcome(game, prior, random_table_of(chance, sizes_of(game[0]))),
            ):
                words.append("obedient" if is_obedient(game, prior, outcome) else "not obedient")
                paper = self.assert_claim(words[-1], certify_obedient, game, prior, outcome)
                self.assertEqual(paper, () if words[-1] == "obedient" else breach(game, prior, outcome))
        self.assertGreater(min(words.count(word) for word in set(words)), 20)

    def test_best_outcomes(self):
        words = []
        for game, prior in games_for(478, 2) + odd_games(483):
            self.assert_claim("best private", certify_private, game, prior, told=best_private(game, prior)[:1])
            found = best_public(game, prior)
            words.append("no public" if found is None else "best public")
            self.assert_claim(words[-1], certify_public, game, prior, told=() if found is None else found[:1])
        self.assertGreater(words.count("no public"), 2)

    def test_wishes(self):
        chance, words = random.Random(479), []
        for game, prior in games_for(480, 2):
            for many in range(5):
                wishes = tuple(
                    (random_table_of(chance, sizes_of(game[0])), pair(Fraction(chance.randint(-2, 2), 3)))
                    for _ in range(many)
                )
                is_so = bring(game, prior, wishes)[0] == "brought"
                words.append("can be brought" if is_so else "cannot be brought")
                self.assert_claim(words[-1], certify_bring, game, prior, wishes)
        self.assertGreater(min(words.count(word) for word in set(words)), 30)


class TextsTest(CertifyCase):
    def test_texts(self):
        for sheet in random_sheets(481, 30) + random_sheets(482, 30) + [CASE]:
            text = text_by_words(sheet)
            self.assert_claim("read", certify_read, text, told=(sheet,))
            rows = text.split("\n")
            for k in range(len(rows) - 1):
                wrong = "\n".join(rows[:k] + [rows[k] + " "] + rows[k + 1:])
                self.assert_claim("not read", certify_read, wrong, told=(k,))
        self.assert_claim("not read", certify_read, "", told=(0,))
        self.assert_claim("not read", certify_read, "states\n", told=(0,))


class ErrorsTest(GivenCase):
    told = {
        "setting": (InvalidSetting, WRONG_SETTINGS),
        "prior": (InvalidBelief, list(WRONG_BELIEFS) + anything()),
        "belief": (InvalidBelief, list(WRONG_BELIEFS) + anything()),
        "split": (InvalidSplit, anything() + [BEST[:1], BEST[::-1], list(BEST), PAIR, ((ONE, (HALF, HALF)),)]),
        "plane": (InvalidPlane, anything() + [(ONE,), (ONE,) * 3, [ONE, ONE], (ONE, (2, 2)), ONE, (1, 1)]),
        "deed": (InvalidDeed, wrong_deeds()),
        "game": (InvalidGame, anything() + [CALLS[:2], list(CALLS), as_lists(CALLS), COURT]),
        "outcome": (InvalidOutcome, anything() + [CALLS[0], list(BEYOND), BEYOND[:1], put(BEYOND, (0, 0, 0), ONE)]),
    }
    good = {
        "setting": COURT, "prior": PRIOR, "belief": PRIOR, "split": BEST, "plane": (ONE, ONE),
        "deed": ("order", (1, 0)), "game": CALLS, "outcome": KEPT, "value": None,
    }
    words = {
        certify_split: "setting prior split", certify_cheap: "setting prior", certify_disclosed: "setting",
        certify_roof: "setting prior", certify_above: "setting plane", certify_helps: "setting prior",
        certify_never: "setting", certify_all_told: "setting", certify_obedient: "game prior outcome",
        certify_private: "game prior", certify_public: "game prior", certify_choice: "setting belief",
        certify_change: "setting value", certify_roofs: "setting deed prior",
    }

    def test_errors(self):
        for call, words in self.words.items():
            good = {word: self.good[word] for word in words.split()}
            if "game" in good:
                good["prior"] = CALLS_PRIOR
            self.assert_errors(call, good, self.told)
        told = {"game": self.told["game"], "prior": self.told["prior"]}
        self.assert_errors(certify_bring, {"game": CALLS, "prior": CALLS_PRIOR, "wishes": ()}, told)

    def test_not_transparent_last(self):
        self.assertRaises(NotTransparent, certify_cheap, IDLE, PRIOR)
        self.assertRaises(NotTransparent, certify_cheap, prior=PRIOR, setting=IDLE)
        self.assert_given(InvalidBelief, None, certify_cheap, IDLE, None)
        self.assert_given(InvalidSetting, None, certify_cheap, None, None)

    def test_wishes(self):
        good = (CALLS[2], ONE)
        for index, wrong in (
            (None, None), (None, [good]), (None, (good,) * 5), (0, ((ONE, CALLS[2]),)), (1, (good, None)),
            (2, (good, good, (CALLS[2], (2, 2)), None)), (0, (Odd(),)), (0, ((CALLS[2], 1),)),
        ):
            self.assert_told(InvalidWishes, "index", index, certify_bring, CALLS, CALLS_PRIOR, wrong)
            self.assert_told(InvalidWishes, "index", index, certify_bring, wishes=wrong, prior=CALLS_PRIOR, game=CALLS)

    def test_no_string(self):
        for thing in anything() + [b"states a b\n", ["states a b\n"]]:
            if not isinstance(thing, str):
                self.assert_told(InvalidText, "line", None, certify_read, thing)
                self.assert_told(InvalidText, "line", None, certify_read, text=thing)

    def test_nothing_is_changed(self):
        given = as_lists(COURT)
        self.assert_given(InvalidSetting, given, certify_never, given)
        claim, paper = certify_change(COURT, given)
        self.assertIs(claim[2], given)
        self.assertEqual(given, as_lists(COURT))
        self.assertTrue(is_setting(COURT) and is_game(CALLS) and is_setting(plain_setting(4, 5)))

    def test_interface(self):
        told = {call.__name__: words for call, words in self.words.items()}
        self.assert_interface(certificates, {**told, "certify_bring": "game prior wishes", "certify_read": "text"})


if __name__ == "__main__":
    unittest.main()
