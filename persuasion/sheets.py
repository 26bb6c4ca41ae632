"""Sheets: a setting with names for its states and actions and with named priors; their texts, told and read.

The functions whose names end in _for take arguments that were checked ahead.
"""

from persuasion.errors import InvalidBook, InvalidText
from persuasion.ratios import is_row_of_chances, is_tuple_of
from persuasion.settings import action_count, is_setting, state_count
from persuasion.words import row_in, row_words

LETTERS = "abcdefghijklmnopqrstuvwxyz"
MOST_LETTERS = 8
FIRST_WORDS = ("states", "action", "prior")
LEAST_STATES = 2
MOST_STATES = 4
MOST_ACTIONS = 5
MOST_PRIORS = 8


def is_name(value):
    """Whether a value, whatever it is, is a name."""
    if not isinstance(value, str) or not 1 <= len(value) <= MOST_LETTERS:
        return False
    return all([sign in LETTERS for sign in value]) and value not in FIRST_WORDS


def are_names(value, least, most):
    """Whether a value, whatever it is, is a tuple of unlike names, at least and at most as many as told."""
    if not isinstance(value, tuple) or not least <= len(value) <= most:
        return False
    return all([is_name(name) for name in value]) and len(set(value)) == len(value)


def is_sheet(value):
    """Whether a value, whatever it is, is a sheet."""
    return is_tuple_of(value, 4) and wrong_part(value) is None


def check_sheet(sheet):
    """InvalidBook for no sheet."""
    if not is_tuple_of(sheet, 4):
        raise InvalidBook(None)
    part = wrong_part(sheet)
    if part is not None:
        raise InvalidBook(part)


def wrong_part(value):
    """The index of the first part of a tuple of four that is wrong in a sheet; None."""
    states, actions, setting, priors = value
    if not are_names(states, LEAST_STATES, MOST_STATES):
        return 0
    if not are_names(actions, 1, MOST_ACTIONS):
        return 1
    if not is_setting(setting) or (state_count(setting), action_count(setting)) != (len(states), len(actions)):
        return 2
    return None if are_priors(priors, len(states)) else 3


def are_priors(value, states):
    """Whether a value, whatever it is, is an ascending tuple of few enough named beliefs of so many states."""
    if not isinstance(value, tuple) or len(value) > MOST_PRIORS:
        return False
    if not all([is_named_belief(kept, states) for kept in value]):
        return False
    return all([kept[0] < other[0] for kept, other in zip(value, value[1:])])


def is_named_belief(value, states):
    """Whether a value, whatever it is, is a pair of a name and a belief of so many states."""
    if not is_tuple_of(value, 2):
        return False
    return is_name(value[0]) and is_row_of_chances(value[1], states)


def sheet_text(sheet):
    """The text of a sheet."""
    check_sheet(sheet)
    return sheet_text_for(sheet)


def sheet_text_for(sheet):
    """The text of a sheet."""
    states, actions, (pays, worths), priors = sheet
    rows = ["states " + " ".join(states)]
    for name, paid, worth in zip(actions, pays, worths):
        rows.append(f"action {name} {row_words(paid + worth)}")
    for name, belief in priors:
        rows.append(f"prior {name} {row_words(belief)}")
    return "".join([row + "\n" for row in rows])


def read_sheet(text):
    """The sheet whose text this is."""
    check_text(text)
    sheet, line = read_for(text)
    if sheet is None:
        raise InvalidText(line)
    return sheet


def check_text(text):
    """InvalidText for no string."""
    if not isinstance(text, str):
        raise InvalidText(None)


def read_for(text):
    """The pair of the sheet whose text this is and None; or of None and the line at which it is wrong."""
    # Behind the last row of a text stands nothing; what stands there is a row that is not ended.
    *rows, left = text.split("\n")
    sheet = ((), (), ((), ()), ())
    for line, row in enumerate(rows):
        sheet = sheet_with(sheet, row.split(" "))
        if sheet is None:
            return (None, line)
    return (None, len(rows)) if left != "" or sheet[1] == () else (sheet, None)


def sheet_with(sheet, words):
    """What was read of a sheet with the words of one row more; None if the row is wrong."""
    states, actions, (pays, worths), priors = sheet
    if states == ():
        names = tuple(words[1:])
        is_right = words[0] == "states" and are_names(names, LEAST_STATES, MOST_STATES)
        return (names, actions, (pays, worths), priors) if is_right else None
    row = row_in(words[2:])
    if row is None or len(words) < 2:
        return None
    if words[0] == "action" and priors == () and len(row) == 2 * len(states):
        names = actions + (words[1],)
        told = (pays + (row[:len(states)],), worths + (row[len(states):],))
        return (states, names, told, priors) if are_names(names, 1, MOST_ACTIONS) else None
    if words[0] == "prior" and actions != ():
        kept = priors + ((words[1], row),)
        return (states, actions, (pays, worths), kept) if are_priors(kept, len(states)) else None
    return None
