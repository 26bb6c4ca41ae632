"""Numbers and fractions as they are written, and what is read of words."""

from persuasion.ratios import lowest

FIGURES = "0123456789"


def fraction_word(number):
    """A fraction as it is written: n, or n/m."""
    above, below = number
    return str(above) if below == 1 else f"{above}/{below}"


def row_words(row):
    """The numbers of a row as they are written, parted by blanks."""
    return " ".join([fraction_word(number) for number in row])


def is_number_word(word):
    """Whether a word is figures without noughts ahead."""
    if word == "" or not all([sign in FIGURES for sign in word]):
        return False
    return word == "0" or word[0] != "0"


def fraction_in(word):
    """The fraction that a word tells, in any terms; None."""
    sign, rest = (-1, word[1:]) if word.startswith("-") else (1, word)
    above, slash, below = rest.partition("/")
    if not is_number_word(above):
        return None
    if slash == "":
        return (sign * int(above), 1)
    if not is_number_word(below) or below == "0":
        return None
    return lowest(sign * int(above), int(below))


def row_in(words):
    """The row that words tell, each as it is written; None."""
    row = tuple([fraction_in(word) for word in words])
    if None in row or row_words(row) != " ".join(words):
        return None
    return row
