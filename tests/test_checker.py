import random
import unittest
from fractions import Fraction

from certified import bent, of_games, of_settings, of_texts, part_at, paths_of
from claim_samples import KINDS, accepts_by_words
from game_samples import (
    BEYOND, BOTH, CALLS, CALLS_PRIOR, DARE, HALF, KEPT, LESS, MORE, NONE, OUT, PENNIES, THIRD, TWO, WIN, table_by,
)
from persuasion import checker
from persuasion.checker import accepts
from persuasion.deeds import any_pair, behind, led_pair
from samples import (
    COURT, IDLE, NIL, ONE, PRIOR, WRONG_FRACTIONS, GivenCase, Odd, anything, as_lists, nested, pair, plain_setting, put,
    row, table,
)
from sheet_samples import BEST, CASE, PAIR

STEEP = (NIL, TWO)
KNOWN = ((NIL, NIL), (ONE, NIL))
EVEN = (HALF, HALF)
RIVALS = (COURT[0], table([0, 1], [1, 0]))
FRIEND, FOE = (COURT[0], COURT[0]), (COURT[0], table([-1, 0], [0, -1]))
ALONE = ((ONE, PRIOR),)
HARSH = ("worth", 1, 0, TWO)
LIFT = ("lift", TWO, (ONE, LESS))
BACK = ("states", (1, 0))
JUST = ((((1, 2),), ((1, 4),)), (((1, 4),), (NIL,)))
LATE = behind(COURT, HARSH)
STILL = ((NIL, NIL), (NIL, NIL))
GREAT = 10 ** 300 + 7

# The foe's rows with a third action that is never best: many times what it lacks makes up for its worths.
THIRDS = (table([1, 0], [0, 1], ["1/3", "1/3"]), table([-1, 0], [0, -1], [9, 9]))
FOES = (
    ("above", (row(0, 0, 0), row(1, 0, 0), row(30, 30, 0))), ("above", (row(0, 1, 0), row(0, 0, 0), row(30, 30, 0))),
)

# Written by hand, with no function of this package but those that lead pairs along.
RIGHT = [
    (("split", COURT, PRIOR, BEST, (3, 5)), ()),
    (("split", COURT, PRIOR, ALONE, NIL), ()),
    (("cheap", COURT, PRIOR, NIL), (ALONE, ((ONE, NIL),))),
    (("cheap", COURT, PRIOR, NIL), (BEST, ((ONE, NIL),))),
    (("cheap", COURT, PRIOR, NIL), (ALONE, (((7, 1), (-3, 1)),))),
    (("cheap", COURT, EVEN, ONE), (((ONE, EVEN),), ())),
    (("disclosed", COURT), ((0, (ONE, NIL)), (0, EVEN), (1, (NIL, ONE)))),
    (("disclosed", COURT), ((0, (ONE, NIL)), (0, PRIOR), (1, (NIL, ONE)))),
    (("not disclosed", RIVALS), ((0, 1), (("gains", 1), ("gains", 0)))),
    (("not disclosed", (table([1, 0], [0, 1], ["1/3", "1/3"]), table([0, 1], [1, 0], [0, 0]))),
     ((0, 1), (("gains", 1), ("gains", 0), ("beaten", (HALF, HALF, NIL))))),
    (("roof at", COURT, PRIOR, (3, 5)), (BEST, STEEP, KNOWN)),
    (("roof at", COURT, EVEN, ONE), (((ONE, EVEN),), (ONE, ONE), STILL)),
    (("above", COURT, STEEP), KNOWN),
    (("above", COURT, (ONE, ONE)), STILL),
    (("above", COURT, (ONE, ONE)), (((9, 7), NIL), (NIL, (3, 2)))),
    (("not above", COURT, (NIL, ONE)), EVEN),
    (("not above", COURT, (NIL, ONE)), row("1/3", "2/3")),
    (("helps at", COURT, PRIOR), BEST),
    (("helps at", COURT, PRIOR), (((3, 10), (NIL, ONE)), ((7, 10), (ONE, NIL)))),
    (("does not help at", COURT, EVEN), ((ONE, ONE), STILL)),
    (("does not help at", COURT, (ONE, NIL)), (STEEP, KNOWN)),
    (("never helps", FOE), (("above", ((NIL, NIL), (ONE, NIL))), ("above", ((NIL, ONE), (NIL, NIL))))),
    (("never helps", THIRDS), FOES + (("under", (HALF, HALF, NIL)),)),
    (("all told best", FRIEND), ((NIL, NIL), (NIL, NIL))),
    (("not all told best", COURT), EVEN),
    (("not all told best", COURT), row("1/4", "3/4")),
    (("obedient", CALLS, CALLS_PRIOR, KEPT), ()),
    (("obedient", DARE, (ONE,), JUST), ()),
    (("not obedient", CALLS, CALLS_PRIOR, BEYOND), (1, 1, 0)),
    (("best private", DARE, (ONE,), (21, 2)), (JUST, row("21/2"), ((row(0, "3/4"), row(0, 0)), (row(0, "3/4"), row(0,
    0))))),
    (("best public", DARE, (ONE,), (9, 1)), (
        ((NONE, WIN), (NONE, NONE)), row(9),
        (((row(0, 3), row(0, 0)), (row(0, 0), row(0, 0))), ((row(0, 3), row(0, 0)), (row(0, 0), row(0, 0)))),
    )),
    (("no public", PENNIES, (ONE,)), (row(-1), (
        ((row(0, 0), row(0, "1/2")), (row("1/2", 0), row(0, 0))), ((row(0, "1/2"), row(0, 0)), (row(0, 0), row("1/2",
        0))),
    ))),
    (("can be brought", DARE, (ONE,), ((BOTH, HALF),)), JUST),
    (("can be brought", DARE, (ONE,), ()), JUST),
    (("cannot be brought", DARE, (ONE,), ((BOTH, (3, 5)),)), (
        row(1), row("1/2"), ((row(0, "1/4"), row(0, 0)), (row(0, "1/4"), row(0, 0))),
    )),
    (("choice", COURT, EVEN, 1), ()),
    (("choice", COURT, PRIOR, 0), ()),
    (("change", COURT, ("strike", 1), (COURT[0][:1], COURT[1][:1])), ()),
    (("change", COURT, HARSH, (COURT[0], table([0, 0], [2, 1]))), ()),
    (("no change", COURT, ("strike", 2)), ()),
    (("no change", COURT, None), ()),
    (("no change", COURT, Odd()), ()),
    (("same roof", COURT, BACK, PRIOR), (PAIR, led_pair(COURT, BACK, PRIOR, PAIR))),
    (("same roof", COURT, LIFT, PRIOR), (PAIR, (BEST, (ONE, (3, 1))))),
    (("same roof", IDLE, ("strike", 2), PRIOR), (PAIR, PAIR)),
    (("other roof", COURT, HARSH, PRIOR), (PAIR, any_pair(LATE, PRIOR))),
    (("other roof", COURT, HARSH, PRIOR), (PAIR, (BEST, (NIL, (3, 1))))),
    (("read", "states a b\naction x 1 1 0 -1/2\n",
      (("a", "b"), ("x",), (table([1, 1]), table([0, "-1/2"])), ())), ()),
    (("not read", "", 0), ()),
    (("not read", "states a b\n", 1), ()),
    (("not read", "states a b\naction x 1 1 0 0\nprior p 1/2 1/3\n", 2), ()),
]


class CheckerCase(GivenCase):
    def assert_accepts(self, is_so, claim, paper):
        self.assertIs(accepts(claim, paper), is_so)
        self.assertIs(accepts(paper=paper, claim=claim), is_so)


class RightTest(CheckerCase):
    def test_by_hand(self):
        for claim, paper in RIGHT:
            self.assert_accepts(True, claim, paper)
            self.assertIs(accepts_by_words(claim, paper), True)
        self.assertEqual(set(claim[0] for claim, _ in RIGHT), set(KINDS))

    def test_what_the_package_made(self):
        kinds = set()
        for claim, paper in of_settings(441, 15) + of_games(442, 2) + of_texts(443, 15):
            kinds.add(claim[0])
            self.assert_accepts(True, claim, paper)
            self.assertIs(accepts_by_words(claim, paper), True)
        self.assertEqual(kinds, set(KINDS))

    def test_great_numbers(self):
        number = pair(Fraction(GREAT, GREAT - 1))
        setting = (table([number_in(number), 0], [0, 1]), COURT[1])
        for claim, paper in (
            (("above", setting, row(GREAT, GREAT)), ((NIL, NIL), (NIL, NIL))),
            (("not above", setting, row(0, "1/2")), (NIL, ONE)),
            (("choice", setting, row(0, 1), 1), ()),
            (("change", COURT, ("worth", 0, 0, number), (COURT[0], table([number_in(number), 0], [1, 1]))), ()),
        ):
            self.assert_accepts(True, claim, paper)


def number_in(number):
    return Fraction(*number)


class WrongPapersTest(CheckerCase):
    def test_papers_of_other_claims(self):
        chance = random.Random(444)
        for claim, _ in RIGHT:
            for _, paper in RIGHT:
                self.assert_accepts(accepts_by_words(claim, paper), claim, paper)
        found = of_settings(445, 6) + of_games(446) + of_texts(447, 9)
        for claim, _ in found:
            for _, paper in chance.sample(found, 5):
                self.assert_accepts(accepts_by_words(claim, paper), claim, paper)

    def test_papers_of_the_same_kind(self):
        for word in KINDS:
            told = [both for both in RIGHT if both[0][0] == word]
            for claim, _ in told:
                for _, paper in told:
                    self.assert_accepts(accepts_by_words(claim, paper), claim, paper)

    def test_whatever_it_is(self):
        for claim, _ in RIGHT:
            for thing in anything() + [list(PAIR), as_lists(PAIR)]:
                if not isinstance(thing, tuple) or len(thing) > 0:
                    self.assert_accepts(False, claim, thing)
                for paper in ((thing,), (thing,) * 2, (thing,) * 3):
                    self.assert_accepts(False, claim, paper)

    def test_where_nothing_is_told(self):
        for claim, paper in RIGHT:
            if paper == ():
                for wrong in ((()), [], "", None, False, 0, {}, ((),), (None,), b"", range(0), Odd(), (Odd(),)):
                    self.assert_accepts(isinstance(wrong, tuple) and len(wrong) == 0, claim, wrong)

    def test_deep_ones(self):
        for claim, paper in RIGHT:
            for path in paths_of(paper):
                for wrong in (nested(tuple, 50), nested(list, 50), Odd(), None, True):
                    if path or paper != ():
                        self.assert_accepts(False, claim, put(paper, path, wrong) if path else wrong)

    def test_lists_in_the_place_of_tuples(self):
        for claim, paper in RIGHT:
            if paper != ():
                for path in paths_of(paper):
                    part = part_at(paper, path)
                    if type(part) is tuple:
                        self.assert_accepts(False, claim, put(paper, path, list(part)) if path else list(part))

    def test_numbers_that_are_none(self):
        for claim, paper in RIGHT:
            for path in paths_of(paper):
                part = part_at(paper, path) if path else paper
                if type(part) is int:
                    for wrong in (True, False, str(part), None, (part,), Fraction(part), complex(part), Odd()):
                        self.assert_accepts(False, claim, put(paper, path, wrong))
                elif type(part) is tuple and [type(number) for number in part] == [int, int] and len(path) > 1:
                    for wrong in WRONG_FRACTIONS:
                        both = put(paper, path, wrong)
                        is_so = not isinstance(wrong, Odd) and accepts_by_words(claim, both)
                        self.assert_accepts(is_so, claim, both)


class WrongClaimsTest(CheckerCase):
    def test_whatever_it_is(self):
        for thing in anything() + [list(both[0]) for both in RIGHT]:
            for paper in ((), None, thing):
                self.assert_accepts(False, thing, paper)
        for word in KINDS:
            for thing in anything():
                for many in range(5):
                    for paper in ((), thing):
                        if (word, many) != ("no change", 2):
                            self.assert_accepts(False, (word,) + (thing,) * many, paper)

    def test_words(self):
        for claim, paper in RIGHT:
            for wrong in (
                "", claim[0] + " ", claim[0].upper(), claim[0].title(), claim[0][:-1], "not " + claim[0], b"split",
                None, 0,
                (claim[0],), [claim[0]], Odd(),
            ):
                is_so = wrong in KINDS if isinstance(wrong, str) else False
                told = (wrong,) + claim[1:]
                self.assert_accepts(is_so and accepts_by_words(told, paper), told, paper)
            for word in KINDS:
                told = (word,) + claim[1:]
                if not any(isinstance(part, Odd) for part in claim):
                    self.assert_accepts(accepts_by_words(told, paper), told, paper)

    def test_elements_too_many_and_too_few(self):
        for claim, paper in RIGHT:
            longer = (claim + claim[-1:], claim + ((),), claim + (None,))
            for wrong in longer + (claim[:-1], claim[1:], list(claim), claim[:1]):
                self.assert_accepts(False, wrong, paper)

    def test_each_part_another_kind_of_thing(self):
        for claim, paper in RIGHT:
            for k in range(1, len(claim)):
                for thing in anything() + [list(claim[k]) if isinstance(claim[k], tuple) else [claim[k]]]:
                    wrong = put(claim, (k,), thing)
                    if claim[0] == "no change" and k == 2:
                        self.assert_accepts(True, wrong, paper)
                    elif claim[0] in ("can be brought", "cannot be brought") and k == 3 and isinstance(thing, tuple):
                        pass
                    elif claim[0] == "not read":
                        is_so = k == 1 and isinstance(thing, str) and accepts_by_words(wrong, paper)
                        self.assert_accepts(is_so, wrong, paper)
                    else:
                        self.assert_accepts(False, wrong, paper)

    def test_lists_at_any_depth(self):
        for claim, paper in RIGHT:
            for path in paths_of(claim)[1:]:
                part = part_at(claim, path)
                if type(part) is tuple:
                    is_so = claim[0] == "no change" and path[0] == 2
                    self.assert_accepts(is_so, put(claim, path, list(part)), paper)

    def test_true_and_false_in_the_place_of_numbers(self):
        for claim, paper in RIGHT:
            for path in paths_of(claim)[1:]:
                part = part_at(claim, path)
                if type(part) is int and part in (0, 1):
                    is_so = claim[0] == "no change" and path[0] == 2
                    self.assert_accepts(is_so, put(claim, path, bool(part)), paper)


class BentTest(CheckerCase):
    def assert_bent(self, seed, found, many):
        chance, told = random.Random(seed), {True: 0, False: 0}
        for _ in range(many):
            both = chance.choice(found)
            if chance.random() < 0.2:
                both = (both[0], chance.choice([paper for claim, paper in found if claim[0] == both[0][0]]))
            for _ in range(chance.choice([1, 1, 1, 2])):
                if type(both) is tuple:
                    both = bent(chance, both)
            if type(both) is tuple and len(both) == 2:
                is_so = accepts_by_words(*both)
                told[is_so] += 1
                self.assertIs(accepts(*both), is_so)
        self.assertGreater(min(told.values()), many // 50)

    def test_claims_and_papers_bent_at_any_depth(self):
        self.assert_bent(448, of_settings(449, 12), 3000)
        self.assert_bent(450, of_games(451), 1500)
        self.assert_bent(452, of_texts(453, 30), 500)
        self.assert_bent(454, [both for both in RIGHT if not any(isinstance(part, Odd) for part in both[0])], 3000)


class HandTest(CheckerCase):
    """Conditions of claims and papers, each broken alone."""

    def test_split(self):
        for wrong in (
            ("split", COURT, PRIOR, BEST, (4, 5)), ("split", COURT, EVEN, BEST, (3, 5)), ("split", COURT, PRIOR,
            BEST[::-1], (3, 5)),
            ("split", COURT, PRIOR, BEST, (6, 10)), ("split", FOE, PRIOR, BEST, (3, 5)), ("split", COURT, PRIOR, (),
            NIL),
            ("split", COURT, (ONE, ONE), BEST, (3, 5)), ("split", COURT, PRIOR, BEST[:1], (3, 5)),
        ):
            self.assert_accepts(False, wrong, ())

    def test_cheap(self):
        claim = ("cheap", COURT, PRIOR, NIL)
        for paper in (
            (ALONE, ()), (ALONE, ((ONE, NIL),) * 2), (ALONE, ((NIL, ONE),)), (ALONE, ((NIL, NIL),)), (ALONE, (ONE,
            NIL)),
            (ALONE, ((ONE, ONE),)), (((ONE, EVEN),), ((ONE, NIL),)), ((), ((ONE, NIL),)), (ALONE,), (ALONE, ((ONE,),)),
            (ALONE, (row(1, 0, 0),)), (ALONE, ([ONE, NIL],)), (((ONE, PRIOR), (ONE, PRIOR)), ((ONE, NIL),)),
        ):
            self.assert_accepts(False, claim, paper)
        # The barrier must be above all corners, and it is level with one.
        self.assert_accepts(False, ("cheap", COURT, EVEN, NIL), (((ONE, EVEN),), ((ONE, NIL),)))
        self.assert_accepts(False, ("cheap", COURT, EVEN, NIL), (((ONE, EVEN),), ((ONE, ONE),)))
        self.assert_accepts(False, ("cheap", COURT, PRIOR, ONE), (ALONE, ()))
        self.assert_accepts(False, ("cheap", COURT, PRIOR, HALF), (ALONE, ((ONE, NIL),)))
        self.assert_accepts(False, ("cheap", IDLE, PRIOR, NIL), (ALONE, ((ONE, NIL),)))
        self.assert_accepts(False, ("cheap", (COURT[0], table([0, 5], [0, 7])), PRIOR, NIL), (ALONE, ()))
        three = (table([1, 0], [0, 1], [0, 0]), table([0, 0], [1, 1], [2, 2]))
        self.assert_accepts(True, ("cheap", three, PRIOR, NIL), (ALONE, ((ONE, NIL), (NIL, NIL))))
        self.assert_accepts(False, ("cheap", three, PRIOR, NIL), (ALONE, ((NIL, NIL), (ONE, NIL))))
        self.assert_accepts(False, ("cheap", three, PRIOR, NIL), (ALONE, ((ONE, NIL),)))

    def test_disclosed(self):
        right = ((0, (ONE, NIL)), (0, EVEN), (1, (NIL, ONE)))
        for k, wrong in (
            (0, (1, (ONE, NIL))), (0, (0, EVEN)), (0, (0, (NIL, ONE))), (1, (1, EVEN)), (1, (0, (NIL, ONE))), (1, (2,
            EVEN)),
            (1, (-1, EVEN)), (1, (False, EVEN)), (1, (0, (HALF,))), (1, (0,)), (2, (0, (NIL, ONE))), (2, (1, EVEN)),
            (1, EVEN),
            (1, (0, EVEN, EVEN)), (1, [0, EVEN]), (1, (0, [HALF, HALF])), (1, (EVEN, 0)),
        ):
            self.assert_accepts(False, ("disclosed", COURT), put(right, (k,), wrong))
        for wrong in (right[:2], right + right[:1], right[::-1], (right[0], right[2], right[1]), ()):
            self.assert_accepts(False, ("disclosed", COURT), wrong)
        self.assert_accepts(False, ("disclosed", RIVALS), right)
        self.assert_accepts(False, ("not disclosed", COURT), right)

    def test_not_disclosed(self):
        for wrong in (
            ((0,), (("gains", 1), ("gains", 0))), ((0, 1), (("gains", 0), ("gains", 0))), ((0, 1), (("gains", 1),)),
            ((0, 1), (("gains", 1), ("gains", 1))), ((1, 0), (("gains", 1), ("gains", 0))), ((0, 1, 2), (("gains",
            1),) * 2),
            ((0, 1), (("gains", True), ("gains", 0))), ((0, 1), (("gains", 1), ("beaten", (ONE, NIL)))),
            ((False, 1), (("gains", 1), ("gains", 0))), ([0, 1], (("gains", 1), ("gains", 0))), ((), ()),
            ((0, 0), (("gains", 1), ("gains", 0))), ((0, 1), (("Gains", 1), ("gains", 0))), ((0, 1), (("gains",
            2),) * 2),
            ((0, 1), (("gains", 1), ("gains", 0), ("gains", 0))), ((0, 1), (("gains", 1), ["gains", 0])),
        ):
            self.assert_accepts(False, ("not disclosed", RIVALS), wrong)
        setting = (table([1, 0], [0, 1], ["1/3", "1/3"], ["1/2", "1/2"]), table([0, 1], [1, 0], [0, 0], [0, 0]))
        gains = (("gains", 1), ("gains", 0))
        for mix, is_so in (
            (row("1/2", "1/2", 0, 0), True), (row(0, 0, 0, 1), True), (row("2/5", "2/5", 0, "1/5"), True),
            (row(1, 0, 0, 0), False), (row(0, 0, 1, 0), False), (row("1/3", "2/3", 0, 0), False), (row(1, 1, 0, 0),
            False),
            (row("1/2", "1/2", 0), False), (row("2/3", "1/3", 0, 0), False), (row("-1/2", "1/2", 0, 1), False),
        ):
            told = ((0, 1), gains + (("beaten", mix), ("beaten", mix)))
            self.assert_accepts(False, ("not disclosed", setting), told)
            less = tuple(side[:3] for side in setting)
            if len(mix) == 4 and mix[3] == NIL:
                self.assert_accepts(is_so, ("not disclosed", less), ((0, 1), gains + (("beaten", mix[:3]),)))
                self.assert_accepts(False, ("not disclosed", less), ((0, 1), gains + (("Beaten", mix[:3]),)))

    def test_roofs(self):
        claim = ("roof at", COURT, PRIOR, (3, 5))
        for wrong in (
            (BEST, STEEP), (BEST, STEEP, KNOWN, KNOWN), (BEST, (ONE, ONE), KNOWN), (BEST, (ONE, ONE), STILL), (BEST,
            STEEP, STILL), (ALONE,
            STEEP, KNOWN),
            (BEST[::-1], STEEP, KNOWN), (STEEP, BEST, KNOWN), (BEST, (NIL, TWO, NIL), KNOWN), (BEST, [NIL, TWO], KNOWN),
            (BEST, (NIL, (2, 1)), ((NIL, NIL), (ONE, LESS))), (BEST, ((6, 7), NIL), KNOWN),
        ):
            self.assert_accepts(False, claim, wrong)
        for number in ((4, 5), NIL, (2, 5), (6, 10), 1, None):
            self.assert_accepts(False, ("roof at", COURT, PRIOR, number), (BEST, STEEP, KNOWN))
        self.assert_accepts(False, ("roof at", COURT, EVEN, (3, 5)), (BEST, STEEP, KNOWN))
        for told in ((BEST, STEEP), (PAIR, KNOWN)):
            self.assert_accepts(False, claim, told)

    def test_helps(self):
        for wrong in (ALONE, BEST[::-1], (), (((ONE, EVEN)),), STEEP, (BEST,), (BEST, STEEP)):
            self.assert_accepts(False, ("helps at", COURT, PRIOR), wrong)
        self.assert_accepts(False, ("helps at", COURT, EVEN), ((ONE, EVEN),))
        self.assert_accepts(False, ("helps at", COURT, EVEN), ((HALF, (NIL, ONE)), (HALF, (ONE, NIL))))
        for wrong in ((STEEP, KNOWN), ((ONE, ONE), KNOWN, ()), ((ONE, ONE),), ((ONE, ONE), ((NIL, NIL), (LESS, NIL)))):
            self.assert_accepts(False, ("does not help at", COURT, PRIOR), wrong)
            if wrong[0] != STEEP:
                self.assert_accepts(False, ("does not help at", COURT, EVEN), wrong)
        self.assert_accepts(False, ("does not help at", COURT, PRIOR), ((NIL, NIL), STILL))

    def test_never_helps(self):
        (first, second), last = FOES, ("under", (HALF, HALF, NIL))
        claim = ("never helps", THIRDS)
        self.assert_accepts(True, claim, (first, second, last))
        self.assert_accepts(True, claim, (first, second, ("under", row("1/3", "2/3", 0))))
        # The last action is worth so much that its row is above, too, though it is never best.
        self.assert_accepts(True, claim, (first, second, ("above", first[1])))
        for wrong in (
            (first, second, ("under", (ONE, NIL, NIL))), (first, second, ("under", (NIL, NIL, ONE))), (first, second),
            (first, second, ("under", (ONE, ONE, NIL))), (first, second, ("under", (HALF, HALF))), (first, last,
            second),
            (first, second, ("under", row("1/4", "3/4", 0))), (second, first, last),
            (first, ("under", (HALF, HALF, NIL)), last), (("under", (NIL, ONE, NIL)), second, last), (first, second,
            [*last]),
            (first, second, ("Under", last[1])), (first, second, last, last), (first, second, ("under", last[1], ())),
            (first, second, ("under", row("3/2", "-1/2", 0))),
        ):
            self.assert_accepts(False, claim, wrong)
        # No action is left that is told "above".
        same = (table([0, 0], [0, 0]), table([0, 0], [0, 0]))
        above, under = ("above", STILL), (("under", (NIL, ONE)), ("under", (ONE, NIL)))
        self.assert_accepts(False, ("never helps", same), under)
        self.assert_accepts(True, ("never helps", same), (above, under[1]))
        self.assert_accepts(True, ("never helps", same), (under[0], above))
        self.assert_accepts(True, ("never helps", same), (above, above))
        self.assert_accepts(False, ("never helps", same), (above, under[0]))
        self.assert_accepts(False, ("never helps", COURT), ())

    def test_all_told(self):
        self.assert_accepts(False, ("all told best", COURT), STILL)
        self.assert_accepts(False, ("all told best", FRIEND), ((NIL, NIL), (LESS, NIL)))
        self.assert_accepts(False, ("all told best", FRIEND), ((NIL, NIL),))
        for wrong in ((ONE, NIL), (NIL, ONE), PRIOR, (ONE, ONE), (HALF,), (), EVEN + EVEN):
            self.assert_accepts(False, ("not all told best", COURT), wrong)
        for belief in (EVEN, (ONE, NIL), PRIOR):
            self.assert_accepts(False, ("not all told best", FRIEND), belief)

    def test_obedience(self):
        claim = ("not obedient", CALLS, CALLS_PRIOR, BEYOND)
        for wrong in (
            (0, 1, 0), (1, 0, 1), (1, 1, 1), (1, 0, 0), (2, 1, 0), (1, 2, 0), (1, 1, 2), (1, 1, -1), (-1, 1, 0), (1, 1),
            (True, 1, 0), (1, True, 0), (1, 1, False), (1, 1, 0, 0), [1, 1, 0], (), None, (1, (1, 0)),
        ):
            self.assert_accepts(False, claim, wrong)
        self.assert_accepts(False, ("obedient", CALLS, CALLS_PRIOR, BEYOND), ())
        self.assert_accepts(False, ("not obedient", CALLS, CALLS_PRIOR, KEPT), (1, 1, 0))
        self.assert_accepts(False, ("not obedient", CALLS[:2] + CALLS[1:2], CALLS_PRIOR, BEYOND), (2, 1, 0))
        both = (((OUT,), (OUT,)), (((ONE, ONE),), ((ONE, ONE),)), ((OUT,), (OUT,)))
        self.assert_accepts(False, ("not obedient", both, CALLS_PRIOR, (((THIRD, MORE),), (OUT,))), (0, 0, 1))
        several = (((OUT,), ((ONE, ONE),), ((TWO, TWO),)), ((OUT,),) * 3, ((OUT,),) * 3)
        outcome = (((THIRD, NIL),), ((NIL, MORE),), (OUT,))
        for triple in ((0, 0, 1), (0, 0, 2), (0, 1, 2)):
            self.assert_accepts(True, ("not obedient", several, CALLS_PRIOR, outcome), triple)
        for triple in ((0, 1, 0), (0, 2, 0), (0, 2, 1), (1, 0, 0)):
            self.assert_accepts(False, ("not obedient", several, CALLS_PRIOR, outcome), triple)

    def test_best_outcomes(self):
        mult = ((row(0, "3/4"), row(0, 0)),) * 2
        claim = ("best private", DARE, (ONE,), (21, 2))
        more = (((row(1)[0],), NONE), (NONE, NONE))
        for wrong in (
            (JUST, row(11), mult), (JUST, row(10), mult), (JUST, row("21/2"), ((row(0, 1), row(0, 0)),) * 2),
            (JUST, row("21/2")), (JUST, row("21/2"), mult, ()), (more, row(12), ((row(0, 0), row(0, 0)),) * 2),
            (JUST, row("21/2"), mult[:1]), (JUST, row("21/2", 0), mult), (((NONE, WIN), (NONE, NONE)), row("21/2"),
            mult),
            (JUST, row("21/2"), ((row(0, "3/4"), row(-1, 0)),) * 2), (BEYOND, row("21/2"), mult),
        ):
            self.assert_accepts(False, claim, wrong)
        for number in ((9, 1), (12, 1), (42, 4), 10):
            self.assert_accepts(False, ("best private", DARE, (ONE,), number), (JUST, row("21/2"), mult))
            self.assert_accepts(False, ("best public", DARE, (ONE,), number), (JUST, row("21/2"), mult))
        self.assert_accepts(False, ("best public", DARE, (ONE,), (21, 2)), (JUST, row("21/2"), mult))
        for claim, paper in RIGHT:
            if claim[0] == "best public":
                self.assert_accepts(True, claim, paper)
                self.assert_accepts(False, ("best private",) + claim[1:], paper)
                for number in (8, 10):
                    self.assert_accepts(False, claim, (paper[0], row(number), paper[2]))
                for wrong in ((JUST,) + paper[1:], paper[:2]):
                    self.assert_accepts(False, claim, wrong)
            if claim[0] == "no public":
                self.assert_accepts(False, claim, (row(0), paper[1]))
                self.assert_accepts(False, claim, (row(-2), paper[1]))
                self.assert_accepts(False, claim, (row("-1/2"), ((STILL,) * 2,) * 2))
                self.assert_accepts(False, claim, paper + ((),))
                self.assert_accepts(False, ("no public", DARE, (ONE,)), paper)
                self.assert_accepts(True, claim, (row("-1/2"), paper[1]))

    def test_bringing(self):
        wrongs = (((BOTH, (3, 5)),), ((BOTH, (2, 4)),), ((BOTH, ONE),) * 5, [(BOTH, HALF)], ((BOTH,),), (BOTH, HALF))
        for wishes in wrongs + (None,):
            self.assert_accepts(False, ("can be brought", DARE, (ONE,), wishes), JUST)
        self.assert_accepts(True, ("can be brought", DARE, (ONE,), ((BOTH, HALF),) * 4), JUST)
        self.assert_accepts(False, ("can be brought", DARE, (ONE,), ((BOTH, HALF),) * 5), JUST)
        self.assert_accepts(False, ("can be brought", DARE, (ONE,), ((BOTH, HALF),)), ((NONE, WIN), (NONE, NONE)))
        self.assert_accepts(False, ("can be brought", DARE, (ONE,), ((BOTH, HALF),)), ((WIN, NONE), (NONE, NONE)))
        claim = ("cannot be brought", DARE, (ONE,), ((BOTH, (3, 5)),))
        right = (row(1), row("1/2"), ((row(0, "1/4"), row(0, 0)),) * 2)
        self.assert_accepts(True, claim, right)
        self.assert_accepts(True, claim, (row(2), row(1), ((row(0, "1/2"), row(0, 0)),) * 2))
        for many in (2, 3, 4, 5):
            told = (row(1, *[0] * (many - 1)),) + right[1:]
            self.assert_accepts(many < 5, ("cannot be brought", DARE, (ONE,), ((BOTH, (3, 5)),) * many), told)
        for wrong in (
            (row(0), row("1/2"), right[2]), (row(-1), row("1/2"), right[2]), (row(1), row("3/5"), right[2]),
            (row(1), row("2/5"), right[2]), (row(1, 0), row("1/2"), right[2]), ((), row("1/2"), right[2]), right[:2],
            (row(2), row("1/2"), right[2]), (row(1), row("1/2"), ((row(0, 0), row(0, 0)),) * 2), right[1:],
        ):
            self.assert_accepts(False, claim, wrong)
        self.assert_accepts(False, ("cannot be brought", DARE, (ONE,), ((BOTH, HALF),)), right)
        self.assert_accepts(False, ("cannot be brought", DARE, (ONE,), ()), ((), row(0), right[2]))

    def test_choices_and_changes(self):
        self.assert_accepts(False, ("choice", COURT, EVEN, 0), ())
        self.assert_accepts(False, ("choice", COURT, PRIOR, 1), ())
        self.assert_accepts(False, ("choice", COURT, EVEN, True), ())
        self.assert_accepts(False, ("choice", COURT, EVEN, 2), ())
        self.assert_accepts(False, ("change", COURT, ("strike", 2), COURT), ())
        self.assert_accepts(False, ("change", COURT, ("order", (1, 0)), COURT), ())
        self.assert_accepts(True, ("change", COURT, ("order", (0, 1)), COURT), ())
        true = put(COURT, (0, 0, 0), (True, 1))
        self.assertEqual(true, COURT)
        self.assert_accepts(False, ("change", COURT, ("order", (0, 1)), true), ())
        self.assert_accepts(False, ("change", COURT, ("order", (0, 1)), as_lists(COURT)), ())
        for deed in (("strike", 1), ("order", (0, 1)), HARSH, LIFT):
            self.assert_accepts(False, ("no change", COURT, deed), ())
        for thing in anything():
            self.assert_accepts(True, ("no change", COURT, thing), ())
            self.assert_accepts(False, ("no change", COURT, thing), (thing,))
            self.assert_accepts(False, ("no change", thing, thing), ())

    def test_same_and_other_roofs(self):
        late = any_pair(LATE, PRIOR)
        for word, deed, paper, is_so in (
            ("same roof", HARSH, (PAIR, late), False), ("other roof", HARSH, (PAIR, late), True),
            ("other roof", HARSH, (late, PAIR), False), ("other roof", HARSH, (PAIR, PAIR), False),
            ("other roof", BACK, (PAIR, led_pair(COURT, BACK, PRIOR, PAIR)), False),
            ("same roof", BACK, (PAIR, PAIR), False), ("same roof", LIFT, (PAIR, PAIR), False),
            ("other roof", LIFT, (PAIR, (BEST, (ONE, (3, 1)))), False), ("same roof", ("order", (1, 0)), (PAIR, PAIR),
            True),
            ("same roof", ("strike", 2), (PAIR, PAIR), False), ("same roof", ("order", (1, 0)), (PAIR,), False),
            ("same roof", ("order", (1, 0)), [PAIR, PAIR], False), ("same roof", ("scale", NIL, EVEN), (PAIR, PAIR),
            False),
            ("same roof", ("scale", TWO, EVEN), (PAIR, PAIR), True), ("same roof", None, (PAIR, PAIR), False),
            ("same roof", ("worth", 0, 1, LESS), (PAIR, PAIR), True), ("other roof", ("worth", 0, 1, LESS), (PAIR,
            PAIR), False),
        ):
            self.assert_accepts(is_so, (word, COURT, deed, PRIOR), paper)
        self.assert_accepts(False, ("same roof", COURT, ("order", (1, 0)), EVEN), (PAIR, PAIR))

    def test_texts(self):
        text = "states a b\naction x 1 1 0 -1/2\n"
        sheet = (("a", "b"), ("x",), (table([1, 1]), table([0, "-1/2"])), ())
        self.assert_accepts(True, ("read", text, sheet), ())
        for wrong in (
            ("read", text + "\n", sheet), ("read", text[:-1], sheet), ("read", text, put(sheet, (0,), ("b", "a"))),
            ("read", text, list(sheet)), ("read", text, put(sheet, (2, 0, 0, 0), (True, 1))), ("read", text, None),
            ("not read", text, 0), ("not read", text, 2), ("not read", "", False), ("not read", "", 1), ("not read",
            "", None),
            ("not read", "states a b\n", True), ("not read", "states a b\n", 0), ("read", "", None), ("not read",
            None, 0),
            ("read", text.encode(), sheet), ("not read", text, None), ("read", text, CASE),
        ):
            self.assert_accepts(False, wrong, ())


class InterfaceTest(GivenCase):
    def test_nothing_is_changed(self):
        given = [as_lists(both) for both in RIGHT if not any(isinstance(part, Odd) for part in both[0])]
        kept = [as_lists(both) for both in RIGHT if not any(isinstance(part, Odd) for part in both[0])]
        for claim, paper in given:
            self.assertIs(accepts(claim, paper), False)
        self.assertEqual(given, kept)

    def test_interface(self):
        self.assert_interface(checker, {"accepts": "claim paper"})
        still = table_by((1, 1, 1), lambda a, b, s: 0)
        self.assertIs(accepts(("obedient", (still,) * 3, (ONE,), (((ONE,),),)), ()), True)
        self.assertIs(accepts(("above", plain_setting(4, 5), (NIL,) * 4), ((NIL,) * 5,) * 5), True)


if __name__ == "__main__":
    unittest.main()
