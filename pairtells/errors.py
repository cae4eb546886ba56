"""The errors of the package: one class for each kind of argument that does not fit."""


class PairError(ValueError):
    """What all errors of the package are."""


class ArgumentError(PairError):
    """A PairError that keeps the very argument for which it was raised."""

    def __init__(self, value=None):
        self.value = value


class InvalidMarks(ArgumentError):
    """Raised for what are no marks."""


class InvalidWidth(ArgumentError):
    """Raised for what is no width of tables."""


class InvalidRows(ArgumentError):
    """Raised for what are no rows of a table."""


class InvalidTable(ArgumentError):
    """Raised for what is no table."""


class InvalidSpots(ArgumentError):
    """Raised for what is no list of positions of rows."""


class InvalidWay(ArgumentError):
    """Raised for what is no way."""


class InvalidOrder(ArgumentError):
    """Raised for what is no order."""


class InvalidBook(ArgumentError):
    """Raised for what is no book."""


class InvalidName(ArgumentError):
    """Raised for what is no name."""


class InvalidPlaces(ArgumentError):
    """Raised for what are no places of a net."""


class InvalidPlace(ArgumentError):
    """Raised for what is no place."""


class InvalidWishes(ArgumentError):
    """Raised for what are no wishes."""


class InvalidNet(ArgumentError):
    """Raised for what is no net."""


class InvalidFilling(ArgumentError):
    """Raised for what is no filling."""


class InvalidChoice(ArgumentError):
    """Raised for what is no choice."""


class InvalidMap(ArgumentError):
    """Raised for what is no dictionary that sends places."""


class InvalidStrikes(ArgumentError):
    """Raised for what is no list of strikes."""


class InvalidSteps(ArgumentError):
    """Raised for what are no steps."""


class InvalidNumber(ArgumentError):
    """Raised for what is no count, or no whole number within the bounds that a point tells."""


class InvalidDues(ArgumentError):
    """Raised for what does not tell what marks cost."""


class InvalidChanges(ArgumentError):
    """Raised for what are no changes."""


class InvalidDesk(ArgumentError):
    """Raised for what is no desk."""


class InvalidSpot(ArgumentError):
    """Raised for what is no spot of a desk."""


class InvalidScript(ArgumentError):
    """Raised for what is no script."""


class InvalidText(ArgumentError):
    """Raised for what is no text of the asked kind."""


class InvalidRecord(ArgumentError):
    """Raised for what is no record."""


class Unlike(ArgumentError):
    """Raised for what has not the same marks, book or places as what stands beside it."""


class Unmajored(ArgumentError):
    """Raised for a book that no majority keeps."""


class Refused(ArgumentError):
    """Raised for what cannot be done as things stand."""


class NothingToUndo(PairError):
    """Raised where there is no command to take back."""


class NothingToRedo(PairError):
    """Raised where there is no command to make again."""
