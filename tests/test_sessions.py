"""The sessions of the document, answer by answer, as they stand there."""

import unittest

SESSIONS = r'''
>>> from persuasion.settings import best_actions, choice, is_belief, is_setting, pay, sure, value, worth
>>> nil, one, half = (0, 1), (1, 1), (1, 2)
>>> court = (((one, nil), (nil, one)), ((nil, nil), (one, one)))
>>> prior = ((7, 10), (3, 10))
>>> [is_setting(court), is_setting((court[0], court[1][:1])), is_belief(court, prior), is_belief(court, (one, one)), sure(court, 1)]
[True, False, True, False, ((0, 1), (1, 1))]
>>> [pay(court, 1, prior), worth(court, 1, prior), best_actions(court, prior), best_actions(court, (half, half)), choice(court, (half, half)), value(court, prior), value(court, (half, half))]
[(3, 10), (1, 1), (0,), (0, 1), 1, (0, 1), (1, 1)]

>>> from persuasion.cells import cell_corners, corners, is_full, never_best
>>> [cell_corners(court, 1), is_full(court, 1), corners(court), never_best(court)]
[(((0, 1), (1, 1)), ((1, 2), (1, 2))), True, (((0, 1), (1, 1)), ((1, 2), (1, 2)), ((1, 1), (0, 1))), ()]
>>> idle = (((one, nil), (nil, one), ((1, 3), (1, 3))), ((nil, nil), (one, one), (nil, one)))
>>> [never_best(idle), cell_corners(idle, 2), corners(idle) == corners(court)]
[(2,), (), True]
'''


def steps():
    """The statements without an answer, and the pairs of one and its answer, in order."""
    rows = [text for text in SESSIONS.split("\n") if text]
    out = []
    for k, text in enumerate(rows):
        if text.startswith(">>> "):
            told = rows[k + 1] if k + 1 < len(rows) and not rows[k + 1].startswith(">>> ") else None
            out.append((text[4:], told))
    return out


class SessionsTest(unittest.TestCase):
    def test_answers(self):
        names = {}
        for statement, told in steps():
            with self.subTest(statement=statement):
                if told is None:
                    exec(statement, names)
                else:
                    self.assertEqual(repr(eval(statement, names)), told)

    def test_all_are_asked(self):
        self.assertEqual(len([told for _, told in steps() if told is not None]), 4)


if __name__ == "__main__":
    unittest.main()
