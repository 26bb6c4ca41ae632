"""The sessions of the document, answer by answer, as they stand there."""

import ast
import importlib
import unittest

from persuasion import errors

SESSIONS = r'''
>>> from persuasion.settings import best_actions, choice, is_belief, is_setting, pay, sure, value, worth
>>> nil, one, half = (0, 1), (1, 1), (1, 2)
>>> court = (((one, nil), (nil, one)), ((nil, nil), (one, one)))
>>> prior = ((7, 10), (3, 10))
>>> [is_setting(court), is_setting((court[0], court[1][:1])), is_belief(court, prior), is_belief(court, (one, one)), sure(court, 1)]
[True, False, True, False, ((0, 1), (1, 1))]
>>> [pay(court, 1, prior), worth(court, 1, prior), best_actions(court, prior), best_actions(court, (half, half)), choice(court, (half, half)), value(court, prior), value(court, (half, half))]
[(3, 10), (1, 1), (0,), (0, 1), 1, (0, 1), (1, 1)]

>>> from persuasion.cells import cell_corners, corners, is_full, never_best
>>> [cell_corners(court, 1), is_full(court, 1), corners(court), never_best(court)]
[(((0, 1), (1, 1)), ((1, 2), (1, 2))), True, (((0, 1), (1, 1)), ((1, 2), (1, 2)), ((1, 1), (0, 1))), ()]
>>> idle = (((one, nil), (nil, one), ((1, 3), (1, 3))), ((nil, nil), (one, one), (nil, one)))
>>> [never_best(idle), cell_corners(idle, 2), corners(idle) == corners(court)]
[(2,), (), True]

>>> from persuasion.experiments import experiment_of, is_experiment, is_split, split_of, split_worth
>>> best = (((3, 5), (half, half)), ((2, 5), (one, nil)))
>>> [is_split(court, prior, best), is_split(court, prior, best[:1]), split_worth(court, prior, best), experiment_of(court, prior, best)]
[True, False, (3, 5), (((3, 7), (4, 7)), ((1, 1), (0, 1)))]
>>> [is_experiment(court, ((one, nil), (one,))), split_of(court, prior, ((half, half), (half, half))), split_of(court, prior, experiment_of(court, prior, best)) == best]
[False, (((1, 1), ((7, 10), (3, 10))),), True]

>>> from persuasion.cheap import barrier, cheap_value, is_transparent, secure
>>> [is_transparent(court), is_transparent(idle), cheap_value(court, prior), secure(court, prior, one), cheap_value(court, (half, half)), barrier(court, (half, half), one)]
[True, False, (0, 1), None, (1, 1), None]
>>> [is_split(court, prior, secure(court, prior, nil)), cheap_value(idle, prior)]
raises NotTransparent()

>>> from persuasion.disclosure import is_disclosed, reasons, sceptical, sure_answers
>>> rivals = (court[0], ((nil, one), (one, nil)))
>>> [sure_answers(court), sceptical(court, (0, 1))[0], reasons(court, (0, 1)), is_disclosed(court)]
[(0, 1), 0, None, True]
>>> [sceptical(rivals, (0, 1)), reasons(rivals, (0, 1)), sceptical(rivals, (1,)), is_disclosed(rivals)]
[None, (('gains', 1), ('gains', 0)), (1, ((0, 1), (1, 1))), False]

>>> from persuasion.planes import above_at, are_multipliers, height, is_above, multipliers
>>> steep = (nil, (2, 1))
>>> [height(court, steep, prior), is_above(court, steep), is_above(court, (nil, one)), above_at(court, (nil, one)), above_at(court, steep)]
[(3, 5), True, False, ((1, 2), (1, 2)), None]
>>> [are_multipliers(court, steep, ((nil, nil), (one, nil))), are_multipliers(court, steep, ((nil, one), (one, nil))), are_multipliers(court, steep, multipliers(court, steep)), multipliers(court, (nil, one))]
[True, False, True, None]

>>> from persuasion.roofs import best_split, fewest, lead, least_plane, pays_within, roof, roof_at, short_split
>>> friend, foe = (court[0], court[0]), (court[0], (((-1, 1), nil), (nil, (-1, 1))))
>>> [roof(court), roof_at(court, prior), best_split(court, prior), least_plane(court, prior) == steep]
[(((0, 1), (2, 1)), ((1, 1), (1, 1))), (3, 5), (((3, 5), ((1, 2), (1, 2))), ((2, 5), ((1, 1), (0, 1)))), True]
>>> [fewest(court, prior), fewest(court, (nil, one)), fewest(foe, prior), short_split(foe, prior), pays_within(court, prior), pays_within(friend, prior)]
[2, 1, 1, (((1, 1), ((7, 10), (3, 10))),), ((7, 10), (7, 10)), ((1, 1), (1, 1))]
>>> [lead(friend, court), lead(court, friend), roof(friend), roof(foe)]
[((1, 1), ((1, 1), (0, 1))), ((0, 1), ((0, 1), (1, 1))), (((1, 1), (1, 1)),), (((-1, 1), (0, 1)), ((0, 1), (-1, 1)))]

>>> from persuasion.telling import against_all, all_best_at, all_told, gain, helped, helps, is_all_best, never_helps
>>> [gain(court, prior), helps(court, (half, half)), never_helps(court), helped(court), never_helps(foe), helped(foe), never_helps(friend)]
[(3, 5), False, False, ((3, 4), (1, 4)), True, None, False]
>>> [all_told(court), is_all_best(court), against_all(court), is_all_best(friend), all_best_at(court, prior), all_best_at(court, (nil, one))]
[((0, 1), (1, 1)), False, ((1, 2), (1, 2)), True, False, True]
>>> never_helps((((nil, nil), (nil, nil)), ((one, one), (nil, nil))))
True

>>> from persuasion.games import apart, breach, is_game, is_obedient, is_publicly_obedient, worth_of_outcome
>>> nil, one, two, half, third, more, less = (0, 1), (1, 1), (2, 1), (1, 2), (1, 3), (2, 3), (-1, 1)
>>> out, eager, wary = (nil, nil), (one, less), (one, (-2, 1))
>>> calls = (((out, out), (eager, eager)), ((out, wary), (out, wary)), ((out, (one, one)), ((one, one), (two, two))))
>>> [is_game(calls), is_obedient(calls, (third, more), (((nil, third), out), (out, (third, third)))), breach(calls, (third, more), (((nil, third), out), (out, (third, third))))]
[True, False, (1, 1, 0)]
>>> [apart(calls) is None, is_publicly_obedient(calls, (third, more), (((nil, half), out), (out, (third, (1, 6))))), worth_of_outcome(calls, (third, more), (((nil, half), out), (out, (third, (1, 6)))))]
[False, True, (1, 1)]

>>> from persuasion.design import are_prices, best_private, best_public, bring, public_bar
>>> [best_private(calls, (third, more))[0], best_public(calls, (third, more))[0], public_bar(calls, (third, more))]
[(7, 6), (1, 1), None]
>>> six, deuce, seven, none = ((6, 1),), (two,), ((7, 1),), (nil,)
>>> dare = (((six, deuce), (seven, none)), ((six, seven), (deuce, none)), ((((12, 1),), ((9, 1),)), (((9, 1),), none)))
>>> [best_private(dare, (one,))[:2], best_public(dare, (one,))[0]]
[((21, 2), ((((1, 2),), ((1, 4),)), (((1, 4),), ((0, 1),)))), (9, 1)]
>>> win, lose = (one,), (less,)
>>> pennies = (((win, lose), (lose, win)), ((lose, win), (win, lose)), ((none, none), (none, none)))
>>> [best_public(pennies, (one,)), best_private(pennies, (one,))[1], public_bar(pennies, (one,)) is None]
[None, ((((1, 4),), ((1, 4),)), (((1, 4),), ((1, 4),))), False]
>>> both = ((win, none), (none, none))
>>> [bring(dare, (one,), ((both, (3, 5)),))[0], bring(dare, (one,), ((both, half),))[0], are_prices(dare, ((12, 1),), (((nil, nil), (nil, nil)),) * 2)]
['barred', 'brought', True]

>>> from persuasion.sheets import is_name, is_sheet, read_sheet, sheet_text
>>> case = (("innocent", "guilty"), ("acquit", "convict"), court, (("start", prior),))
>>> [is_sheet(case), is_sheet(case[:3]), is_name("prior"), is_name("start"), sheet_text(case)]
[True, False, False, True, 'states innocent guilty\naction acquit 1 0 0 0\naction convict 0 1 1 1\nprior start 7/10 3/10\n']
>>> [read_sheet(sheet_text(case)) == case, read_sheet("states a b\naction a 1 1 0 -1/2\n")]
[True, (('a', 'b'), ('a',), ((((1, 1), (1, 1)),), (((0, 1), (-1, 2)),)), ())]
>>> read_sheet("states a b\naction x 1 1 0 0\nprior p 1/2 1/3\n")
raises InvalidText(2)
>>> read_sheet("states a b\n")
raises InvalidText(1)

>>> from persuasion.deeds import any_pair, behind, fits, is_pair, leaves, led_pair, led_prior
>>> pair = (best, (nil, (2, 1)))
>>> [is_pair(court, prior, pair), is_pair(court, prior, (best, (one, one))), is_pair(court, prior, any_pair(court, prior)), fits(court, ("strike", 1)), fits(court, ("scale", nil, (nil, nil)))]
[True, False, True, True, False]
>>> [behind(court, ("lift", (2, 1), (one, nil)))[1], led_pair(court, ("lift", (2, 1), (one, nil)), prior, pair)[1], led_prior(court, ("states", (1, 0)), prior), leaves(court, ("states", (1, 0)), prior, pair)]
[(((1, 1), (0, 1)), ((3, 1), (2, 1))), ((1, 1), (4, 1)), ((3, 10), (7, 10)), True]
>>> [leaves(court, ("worth", 0, 1, (-1, 1)), prior, pair), leaves(court, ("worth", 0, 0, (-1, 1)), prior, pair), leaves(court, ("worth", 1, 0, (2, 1)), prior, pair), leaves(court, ("worth", 0, 1, (2, 1)), prior, pair)]
[True, False, False, True]

>>> from persuasion.books import again, changed, fresh_book, pairs_in, sheet_in, undone, work_of
>>> book = fresh_book(case)
>>> harsh = changed(book, ("worth", 1, 0, (2, 1)))
>>> [pairs_in(book) == (pair,), work_of(book, ("worth", 1, 0, (2, 1))), work_of(book, ("states", (1, 0))), sheet_in(changed(book, ("states", (1, 0))))[0], undone(harsh)[0] == book[0], again(undone(harsh)) == harsh]
[True, ('start',), (), ('guilty', 'innocent'), True, True]
>>> sheet_in(changed(book, ("action", (half, half), (nil, (-1, 1)), "defer")))[1]
('acquit', 'convict', 'defer')
>>> undone(book)
raises NothingToUndo()

>>> from persuasion.pictures import drawing, gains, strip, triangle
>>> [strip(court, 10), gains(court, 10), drawing(court).split("\n")[1:]]
['00000111111', '.++++......', ['<line x1="0" y1="200" x2="150" y2="200"/>', '<line x1="150" y1="0" x2="300" y2="0"/>', '<polyline points="0,200 150,0 300,0"/>', '</svg>']]
>>> triangle(court, 3)
raises Unfit(2)

>>> from persuasion.console import fresh_console, said, told_all
>>> lines = ("sheet states innocent guilty ; action acquit 1 0 0 0 ; action convict 0 1 1 1 ; prior start 7/10 3/10", "choice start", "value start", "roof start", "helps start", "cheap start", "never", "disclosed", "strip 4", "worth convict innocent 2", "roof start", "undo", "strike nobody", "corners", "triangle 3")
>>> told_all(fresh_console(), lines)[1]
('2 states, 2 actions, 1 priors', 'acquit', '0', '3/5', 'yes', '0', 'no', 'yes', '00111', 'anew: start', '9/10', 'done', 'does not fit', '0 1\n1/2 1/2\n1 0', 'no picture')
>>> [said(fresh_console(), "never")[1], said(fresh_console(), "sheet states a")[1], said(fresh_console(), "strip x")[1]]
['no sheet', 'wrong at 0', 'not understood']

>>> from persuasion.checker import accepts
>>> sterner = ("worth", 1, 0, (2, 1))
>>> [accepts(("choice", court, (half, half), 1), ()), accepts(("same roof", court, ("states", (1, 0)), prior), (pair, led_pair(court, ("states", (1, 0)), prior, pair))), accepts(("other roof", court, sterner, prior), (pair, any_pair(behind(court, sterner), prior))), accepts(("same roof", court, ("strike", 2), prior), (pair, pair)), accepts("choice", ())]
[True, True, True, False, False]
>>> known = ((nil, nil), (one, nil))
>>> [accepts(("split", court, prior, best, (3, 5)), ()), accepts(("cheap", court, prior, nil), (((one, prior),), ((one, nil),))), accepts(("roof at", court, prior, (3, 5)), (best, steep, known)), accepts(("above", court, steep), known), accepts(("not above", court, (nil, one)), (half, half))]
[True, True, True, True, True]
>>> [accepts(("never helps", court), ()), accepts(("not obedient", calls, (third, more), (((nil, third), out), (out, (third, third)))), (1, 1, 0)), accepts(("can be brought", dare, (one,), ((both, half),)), ((((1, 2),), ((1, 4),)), (((1, 4),), ((0, 1),))))]
[False, True, True]

>>> from persuasion.certificates import certify_change, certify_choice, certify_read, certify_roof, certify_roofs
>>> [certify_choice(court, prior)[0][3], certify_change(court, ("strike", 2))[0][0], certify_roofs(court, sterner, prior)[0][0], certify_roofs(court, ("scale", (2, 1), (one, nil)), prior)[0][0], certify_read("states\n"), certify_roof(court, prior)[0][3]]
[0, 'no change', 'other roof', 'same roof', (('not read', 'states\n', 0), ()), (3, 5)]
>>> from persuasion.certificates import certify_all_told, certify_bring, certify_cheap, certify_disclosed, certify_never, certify_obedient, certify_private, certify_public
>>> [certify_cheap(court, prior)[0][3], certify_disclosed(court)[0][0], certify_disclosed(rivals)[0][0], certify_never(court)[0][0], certify_all_told(friend)[0][0]]
[(0, 1), 'disclosed', 'not disclosed', 'helps at', 'all told best']
>>> [certify_obedient(calls, (third, more), (((nil, third), out), (out, (third, third))))[0][0], certify_private(dare, (one,))[0][3], certify_public(pennies, (one,))[0][0], certify_bring(dare, (one,), ((both, half),))[0][0]]
['not obedient', (21, 2), 'no public', 'can be brought']
>>> claim, paper = certify_roof(court, prior)
>>> accepts(claim, paper)
True
'''


def steps():
    """The statements without an answer, and the pairs of one and its answer, in order."""
    rows = [text for text in SESSIONS.split("\n") if text]
    out = []
    for k, text in enumerate(rows):
        if text.startswith(">>> "):
            told = rows[k + 1] if k + 1 < len(rows) and not rows[k + 1].startswith(">>> ") else None
            out.append((text[4:], told))
    return out


def written(error):
    """An error as the sessions write it."""
    return f"raises {type(error).__name__}({', '.join(repr(told) for told in vars(error).values())})"


class SessionsTest(unittest.TestCase):
    def test_answers(self):
        names = {}
        for statement, told in steps():
            with self.subTest(statement=statement):
                if told is None:
                    exec(statement, names)
                elif told.startswith("raises "):
                    with self.assertRaises(errors.PersuasionError) as caught:
                        eval(statement, names)
                    self.assertEqual(written(caught.exception), told)
                else:
                    self.assertEqual(repr(eval(statement, names)), told)

    def test_each_module_defines_what_is_imported(self):
        told = [ast.parse(statement).body[0] for statement, _ in steps() if statement.startswith("from ")]
        self.assertEqual(len(told), 18)
        for node in told:
            module = importlib.import_module(node.module)
            for part in node.names:
                self.assertEqual(getattr(module, part.name).__module__, node.module)

    def test_all_are_asked(self):
        self.assertEqual(len([told for _, told in steps() if told is not None]), 45)


if __name__ == "__main__":
    unittest.main()
