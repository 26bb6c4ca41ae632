"""The console: a book that lines of words change and ask.

A console is a book, or None at first; it is one that this package has told, so
it is not checked.
"""

from persuasion.books import again, changed_for, fresh_book_for, is_change_for, sheet_in, undone
from persuasion.cells import corners_in
from persuasion.cheap import cheap_value_for, is_transparent_for
from persuasion.disclosure import first_without
from persuasion.errors import InvalidLines, NothingToRedo, NothingToUndo
from persuasion.lines import told_in
from persuasion.pictures import are_parts_for, choices_for
from persuasion.roofs import roof_at_for
from persuasion.settings import choice_at, state_count, value_at
from persuasion.sheets import read_for, sheet_text_for
from persuasion.telling import against_all_for, helped_for, helps_for
from persuasion.words import fraction_word, row_words

MOST_LINES = 60


def fresh_console():
    """A console without a book."""
    return None


def said(console, line):
    """The pair of the console behind the line and the answer."""
    if not isinstance(line, str):
        raise InvalidLines(None)
    return said_for(console, line)


def told_all(console, lines):
    """The pair of the console behind all lines and the tuple of the answers."""
    check_lines(lines)
    answers = []
    for line in lines:
        console, answer = said_for(console, line)
        answers.append(answer)
    return (console, tuple(answers))


def check_lines(lines):
    """InvalidLines for no tuple of few enough texts."""
    if not isinstance(lines, tuple) or len(lines) > MOST_LINES:
        raise InvalidLines(None)
    for k, line in enumerate(lines):
        if not isinstance(line, str):
            raise InvalidLines(k)


def said_for(console, line):
    """The pair of the console behind the line and the answer."""
    told = told_in(line)
    if told is None:
        return (console, "not understood")
    word, parts = told
    if word == "sheet":
        return with_sheet(console, parts)
    if console is None:
        return (None, "no sheet")
    if word == "undo":
        return with_undone(console)
    if word == "redo":
        return with_redone(console)
    if word in CHANGES:
        make = CHANGES[word]
        return with_change(console, make(sheet_in(console), word, parts))
    answer_to = ANSWERS[word]
    return (console, answer_to(sheet_in(console), word, parts))


def with_sheet(console, words):
    """The pair of a fresh console with the sheet that the words tell, and how much is in it; or where it is wrong."""
    rows = " ".join(words).split(" ; ")
    sheet, row = read_for("".join([text + "\n" for text in rows]))
    if sheet is None:
        return (console, f"wrong at {row}")
    states, actions, _, priors = sheet
    return (fresh_book_for(sheet), f"{len(states)} states, {len(actions)} actions, {len(priors)} priors")


def with_undone(book):
    """The pair of the book with the last change undone and the answer."""
    try:
        return (undone(book), "done")
    except NothingToUndo:
        return (book, "nothing there")


def with_redone(book):
    """The pair of the book with a change done again and the answer."""
    try:
        return (again(book), "done")
    except NothingToRedo:
        return (book, "nothing there")


def with_change(book, change):
    """The pair of the book behind the change and its work, if it fits."""
    if not is_change_for(sheet_in(book), change):
        return (book, "does not fit")
    other, work = changed_for(book, change)
    return (other, " ".join(["anew:", *work]))


def place_of(names, word):
    """The index of a name; None, which fits nowhere, for what is not there."""
    return names.index(word) if word in names else None


def number_change(sheet, word, parts):
    """The change of a pay or a worth."""
    action, state, number = parts
    return (word, place_of(sheet[1], action), place_of(sheet[0], state), number)


def strike_change(sheet, word, parts):
    """The change that strikes an action."""
    return (word, place_of(sheet[1], parts[0]))


def order_change(sheet, word, parts):
    """The change that puts actions or states in an order."""
    names = sheet[0] if word == "states" else sheet[1]
    return (word, tuple([place_of(names, name) for name in parts]))


def action_change(_, word, parts):
    """The change by a new action: as many worths as pays, or none that fits."""
    name, numbers = parts[0], tuple(parts[1:])
    many = len(numbers) // 2
    return (word, numbers[:many], numbers[many:], name)


def row_change(_, word, parts):
    """The change that tells one thing and a row."""
    return (word, parts[0], tuple(parts[1:]))


def drop_change(_, word, parts):
    """The change that drops a prior."""
    return (word, parts[0])


CHANGES = {
    "pay": number_change, "worth": number_change, "strike": strike_change, "order": order_change,
    "states": order_change, "action": action_change, "scale": row_change, "lift": row_change, "keep": row_change,
    "drop": drop_change,
}


def prior_answer(sheet, word, parts):
    """What is asked of a kept prior."""
    _, actions, setting, priors = sheet
    belief = dict(priors).get(parts[0])
    if belief is None:
        return "no such prior"
    if word == "choice":
        return actions[choice_at(setting, belief)]
    if word == "value":
        return fraction_word(value_at(setting, belief))
    if word == "roof":
        return fraction_word(roof_at_for(setting, belief))
    if word == "helps":
        return yes_or_no(helps_for(setting, belief))
    return fraction_word(cheap_value_for(setting, belief)) if is_transparent_for(setting) else "not transparent"


def yes_or_no(is_so):
    """The word for what is so, or is not."""
    return "yes" if is_so else "no"


def whole_answer(sheet, word, _):
    """Whether telling never helps, telling all is best at all priors, or each lot has a sceptical answer."""
    setting = sheet[2]
    if word == "never":
        return yes_or_no(helped_for(setting) is None)
    if word == "all":
        return yes_or_no(against_all_for(setting) is None)
    return yes_or_no(first_without(setting) is None)


def picture_answer(sheet, word, parts):
    """The strip or the triangle."""
    setting, many = sheet[2], parts[0]
    states = 2 if word == "strip" else 3
    if state_count(setting) != states or not are_parts_for(states, many):
        return "no picture"
    return choices_for(setting, many)


def text_answer(sheet, word, _):
    """The corners of the setting, or the text of the sheet."""
    if word == "corners":
        return "\n".join([row_words(corner) for corner in corners_in(sheet[2])])
    return sheet_text_for(sheet)[:-1]


ANSWERS = {
    "choice": prior_answer, "value": prior_answer, "roof": prior_answer, "helps": prior_answer, "cheap": prior_answer,
    "never": whole_answer, "all": whole_answer, "disclosed": whole_answer, "corners": text_answer,
    "strip": picture_answer, "triangle": picture_answer, "show": text_answer,
}
