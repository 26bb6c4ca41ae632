"""The checker, which accepts papers for claims that are so, whoever wrote them."""

from persuasion.game_claims import shows_of_game
from persuasion.ratios import is_tuple_of, is_whole
from persuasion.setting_claims import shows_of_setting
from persuasion.sheets import is_sheet, read_for


def accepts(claim, paper):
    """Whether a value, whatever it is, is a claim for the checker, and another one a paper for it."""
    if not isinstance(claim, tuple) or len(claim) == 0 or not isinstance(claim[0], str):
        return False
    word, parts = claim[0], claim[1:]
    if shows_of_setting(word, parts, paper) or shows_of_game(word, parts, paper):
        return True
    return shows_of_text(word, parts, paper)


def shows_of_text(word, parts, paper):
    """Whether the word and the parts are a claim about a text that is so, and the paper is ()."""
    if word not in ("read", "not read") or len(parts) != 2 or not isinstance(parts[0], str):
        return False
    sheet, line = read_for(parts[0])
    if word == "read":
        return is_tuple_of(paper, 0) and is_sheet(parts[1]) and sheet == parts[1]
    return is_tuple_of(paper, 0) and is_whole(parts[1]) and line == parts[1]
