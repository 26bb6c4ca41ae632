"""The errors that the functions of the package raise.

The messages are fixed texts: what was passed may be too great or too deep
to be written out.
"""


class PersuasionError(ValueError):
    """What all errors of this package stand under."""


class InvalidSetting(PersuasionError):
    """What was passed is no setting, or none that is let here."""

    def __init__(self, given):
        super().__init__("no setting")
        self.given = given


class InvalidBelief(PersuasionError):
    """What was passed is no belief, or one of another number of states."""

    def __init__(self, given):
        super().__init__("no belief")
        self.given = given


class InvalidSplit(PersuasionError):
    """What was passed is no split, or no pair, for the prior."""

    def __init__(self, given):
        super().__init__("no split")
        self.given = given


class InvalidExperiment(PersuasionError):
    """What was passed is no experiment, or no information."""

    def __init__(self, given):
        super().__init__("no experiment")
        self.given = given


class InvalidPlane(PersuasionError):
    """What was passed is no plane of as many states."""

    def __init__(self, given):
        super().__init__("no plane")
        self.given = given


class InvalidGame(PersuasionError):
    """What was passed is no game."""

    def __init__(self, given):
        super().__init__("no game")
        self.given = given


class InvalidOutcome(PersuasionError):
    """What was passed is no outcome of the prior."""

    def __init__(self, given):
        super().__init__("no outcome")
        self.given = given


class InvalidAnswers(PersuasionError):
    """What was passed are no answers to the information's signals."""

    def __init__(self, given):
        super().__init__("no answers")
        self.given = given


class InvalidAction(PersuasionError):
    """What was passed is no index of an action."""

    def __init__(self, given):
        super().__init__("no action")
        self.given = given


class InvalidState(PersuasionError):
    """What was passed is no index of a state."""

    def __init__(self, given):
        super().__init__("no state")
        self.given = given


class InvalidNumber(PersuasionError):
    """What was passed is no number that is let here."""

    def __init__(self, given):
        super().__init__("no such number")
        self.given = given


class InvalidName(PersuasionError):
    """What was passed is no name that is let here."""

    def __init__(self, given):
        super().__init__("no name")
        self.given = given


class InvalidDeed(PersuasionError):
    """What was passed is no deed, or no change, that fits."""

    def __init__(self, given):
        super().__init__("no deed that fits")
        self.given = given


class InvalidDrawing(PersuasionError):
    """What was passed is no drawing."""

    def __init__(self, given):
        super().__init__("no drawing")
        self.given = given


class Unfit(PersuasionError):
    """What was asked for is not there for what was passed."""

    def __init__(self, given):
        super().__init__("it does not fit")
        self.given = given


class InvalidLot(PersuasionError):
    """What was passed is no lot of states."""

    def __init__(self, index):
        super().__init__("no lot")
        self.index = index


class InvalidWishes(PersuasionError):
    """What was passed are no wishes for the game."""

    def __init__(self, index):
        super().__init__("no wishes")
        self.index = index


class InvalidBook(PersuasionError):
    """What was passed is no sheet."""

    def __init__(self, index):
        super().__init__("no sheet")
        self.index = index


class InvalidLines(PersuasionError):
    """What was passed are no lines for a console."""

    def __init__(self, index):
        super().__init__("no lines")
        self.index = index


class InvalidText(PersuasionError):
    """What was passed is no text of a sheet."""

    def __init__(self, line):
        super().__init__("no text of a sheet")
        self.line = line


class NotTransparent(PersuasionError):
    """The setting is not transparent."""


class NothingToUndo(PersuasionError):
    """No state of the book is earlier than the one that stands."""


class NothingToRedo(PersuasionError):
    """No state of the book is later than the one that stands."""
