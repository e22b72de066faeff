"""The errors of the package, one class for each kind of failure."""


class StampError(ValueError):
    """The base class of all errors of the package."""


class InvalidStamps(StampError):
    """The words are no stamps."""


class InvalidText(StampError):
    """This is no text of the band."""


class InvalidStrip(StampError):
    """This is no strip of the band."""


class InvalidParts(StampError):
    """The parts are no splitting of the text."""


class InvalidStamping(StampError):
    """There is no such stamping."""


class InvalidOrder(StampError):
    """This is no order that shows the parts."""


class InvalidName(StampError):
    """No band has this name."""


class InvalidNumber(StampError):
    """The number is outside of its limits."""


class NotPossible(StampError):
    """The stamps cannot print this."""


class NothingToUndo(StampError):
    """No press is left that could be undone."""


class InvalidCode(StampError):
    """The code cannot be read: at is the number of the first word that cannot stand there."""

    def __init__(self, at):
        super().__init__(f"word {at} of the code cannot stand there")
        self.at = at
