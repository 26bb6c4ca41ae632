"""The lines that a console understands, by their form alone."""

from persuasion.words import fraction_in, is_number_word

MOST_FIGURES = 6
# For each first word a letter for each word behind it, the letter of any more words, and how many more are due.
# A word may be any (w), a fraction (f) or a number (n).
FORMS = {
    "sheet": ("", "w", 1),
    "pay": ("wwf", "", 0), "worth": ("wwf", "", 0), "strike": ("w", "", 0), "order": ("", "w", 1),
    "states": ("", "w", 1), "action": ("w", "f", 2), "scale": ("f", "f", 1), "lift": ("f", "f", 1),
    "keep": ("w", "f", 1), "drop": ("w", "", 0), "undo": ("", "", 0), "redo": ("", "", 0),
    "choice": ("w", "", 0), "value": ("w", "", 0), "roof": ("w", "", 0), "helps": ("w", "", 0), "cheap": ("w", "", 0),
    "never": ("", "", 0), "all": ("", "", 0), "disclosed": ("", "", 0), "corners": ("", "", 0),
    "strip": ("n", "", 0), "triangle": ("n", "", 0), "show": ("", "", 0),
}


def told_in(line):
    """The pair of a line's first word and the list of what its other words tell; None if it is not understood."""
    words = line.split(" ")
    if "\n" in line or "" in words or words[0] not in FORMS:
        return None
    kinds, more, due = FORMS[words[0]]
    spare = len(words) - 1 - len(kinds)
    if spare < due or (spare > 0 and more == ""):
        return None
    parts = [part_in(kind, word) for kind, word in zip(kinds + more * spare, words[1:])]
    return None if None in parts else (words[0], parts)


def part_in(kind, word):
    """What a word of this kind tells: itself, a fraction or a number; None."""
    if kind == "w":
        return word
    if not all([len(figures) <= MOST_FIGURES for figures in word.lstrip("-").split("/")]):
        return None
    if kind == "f":
        return fraction_in(word)
    return int(word) if is_number_word(word) else None
