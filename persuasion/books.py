"""Books: a sheet with a pair for each of its priors, how both were changed, and what was undone.

A book is one that this package has told, so it is not checked. The functions
whose names end in _for take arguments that were checked ahead.
"""

from persuasion.deeds import behind_for, fits_for, in_order, leaves_for, led_belief, led_pair_for
from persuasion.errors import InvalidDeed, NothingToRedo, NothingToUndo
from persuasion.ratios import is_row_of_chances
from persuasion.roofs import met_for
from persuasion.settings import state_count
from persuasion.sheets import MOST_PRIORS, check_sheet, is_name

MOST_STATES = 20


def fresh_book(sheet):
    """The book of a sheet, with nothing to undo or to do again."""
    check_sheet(sheet)
    return fresh_book_for(sheet)


def fresh_book_for(sheet):
    """The book of a sheet, with nothing to undo or to do again."""
    _, _, setting, priors = sheet
    return ((sheet, tuple([met_for(setting, prior) for _, prior in priors])), (), ())


def sheet_in(book):
    """The sheet that stands in the book."""
    return book[0][0]


def pairs_in(book):
    """The pair for each prior of the sheet, in order."""
    return book[0][1]


def is_change_for(sheet, value):
    """Whether a value, whatever it is, is a change of the sheet."""
    _, actions, setting, priors = sheet
    if not isinstance(value, tuple) or len(value) == 0 or not isinstance(value[0], str):
        return False
    if value[0] == "action":
        return len(value) == 4 and is_name(value[3]) and value[3] not in actions and fits_for(setting, value[:3])
    names = [name for name, _ in priors]
    if value[0] == "keep":
        if len(value) != 3 or not is_name(value[1]) or not is_row_of_chances(value[2], state_count(setting)):
            return False
        return value[1] in names or len(names) < MOST_PRIORS
    if value[0] == "drop":
        return len(value) == 2 and is_name(value[1]) and value[1] in names
    return fits_for(setting, value)


def check_change(book, change):
    """InvalidDeed for no change that fits."""
    if not is_change_for(sheet_in(book), change):
        raise InvalidDeed(change)


def changed(book, change):
    """The book behind the change."""
    check_change(book, change)
    return changed_for(book, change)[0]


def work_of(book, change):
    """The names of the priors behind the change whose pairs come anew, ascending."""
    check_change(book, change)
    return changed_for(book, change)[1]


def changed_for(book, change):
    """The pair of the book behind the change and of its work."""
    (sheet, pairs), earlier, _ = book
    states, actions, setting = with_names_led(sheet, change)
    kept = [(name, belief, pair) for (name, belief), pair in zip(sheet[3], pairs)]
    kept = kept_behind(setting, kept, change)
    priors = tuple([(name, belief) for name, belief, _ in kept])
    told = tuple([met_for(setting, belief) if pair is None else pair for _, belief, pair in kept])
    state = ((states, actions, setting, priors), told)
    work = tuple([name for name, _, pair in kept if pair is None])
    return ((state, (earlier + book[:1])[-MOST_STATES:], ()), work)


def with_names_led(sheet, change):
    """The states, the actions and the setting behind the change."""
    states, actions, setting, _ = sheet
    word = change[0]
    if word in ("keep", "drop"):
        return (states, actions, setting)
    if word == "action":
        actions = actions + change[3:]
    elif word == "strike":
        actions = actions[:change[1]] + actions[change[1] + 1:]
    elif word == "order":
        actions = in_order(actions, change[1])
    elif word == "states":
        states = in_order(states, change[1])
    return (states, actions, behind_for(setting, deed_in(change)))


def deed_in(change):
    """The deed of a change that is one, without the name of an action."""
    return change[:3] if change[0] == "action" else change


def kept_behind(setting, kept, change):
    """Behind the change, which made the setting, all (NAME, BELIEF, PAIR), ascending; None for pairs to come anew."""
    word = change[0]
    if word in ("keep", "drop"):
        others = [entry for entry in kept if entry[0] != change[1]]
        anew = [(change[1], change[2], None)] if word == "keep" else []
        return sorted(others + anew, key=lambda entry: entry[0])
    deed, out = deed_in(change), []
    for name, belief, pair in kept:
        is_left = leaves_for(setting, deed, belief, pair)
        out.append((name, led_belief(deed, belief), led_pair_for(deed, pair) if is_left else None))
    return out


def undone(book):
    """The book with the last change undone."""
    state, earlier, later = book
    if earlier == ():
        raise NothingToUndo()
    return (earlier[-1], earlier[:-1], (state,) + later)


def again(book):
    """The book with what was undone last done again."""
    state, earlier, later = book
    if later == ():
        raise NothingToRedo()
    return (later[0], earlier + (state,), later[1:])
