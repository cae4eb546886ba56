"""The errors of the package: one class for each kind of argument that does not fit."""


class PairError(ValueError):
    """What all errors of the package are."""


class InvalidMarks(PairError):
    """Raised for what are no marks."""

    def __init__(self, value=None):
        self.value = value


class InvalidWidth(PairError):
    """Raised for what is no width of tables."""

    def __init__(self, value=None):
        self.value = value


class InvalidRows(PairError):
    """Raised for what are no rows of a table."""

    def __init__(self, value=None):
        self.value = value


class InvalidTable(PairError):
    """Raised for what is no table."""

    def __init__(self, value=None):
        self.value = value


class InvalidSpots(PairError):
    """Raised for what is no list of positions of rows."""

    def __init__(self, value=None):
        self.value = value


class InvalidWay(PairError):
    """Raised for what is no way."""

    def __init__(self, value=None):
        self.value = value


class InvalidOrder(PairError):
    """Raised for what is no order."""

    def __init__(self, value=None):
        self.value = value


class InvalidBook(PairError):
    """Raised for what is no book."""

    def __init__(self, value=None):
        self.value = value


class InvalidName(PairError):
    """Raised for what is no name."""

    def __init__(self, value=None):
        self.value = value


class InvalidPlaces(PairError):
    """Raised for what are no places of a net."""

    def __init__(self, value=None):
        self.value = value


class InvalidPlace(PairError):
    """Raised for what is no place."""

    def __init__(self, value=None):
        self.value = value


class InvalidWishes(PairError):
    """Raised for what are no wishes."""

    def __init__(self, value=None):
        self.value = value


class InvalidNet(PairError):
    """Raised for what is no net."""

    def __init__(self, value=None):
        self.value = value


class InvalidFilling(PairError):
    """Raised for what is no filling."""

    def __init__(self, value=None):
        self.value = value


class InvalidChoice(PairError):
    """Raised for what is no choice."""

    def __init__(self, value=None):
        self.value = value


class InvalidMap(PairError):
    """Raised for what is no dictionary that sends places."""

    def __init__(self, value=None):
        self.value = value


class InvalidStrikes(PairError):
    """Raised for what is no list of strikes."""

    def __init__(self, value=None):
        self.value = value


class InvalidSteps(PairError):
    """Raised for what are no steps."""

    def __init__(self, value=None):
        self.value = value


class InvalidNumber(PairError):
    """Raised for what is no count, or no whole number within the bounds that a point tells."""

    def __init__(self, value=None):
        self.value = value


class InvalidDues(PairError):
    """Raised for what does not tell what marks cost."""

    def __init__(self, value=None):
        self.value = value


class InvalidChanges(PairError):
    """Raised for what are no changes."""

    def __init__(self, value=None):
        self.value = value


class InvalidDesk(PairError):
    """Raised for what is no desk."""

    def __init__(self, value=None):
        self.value = value


class InvalidSpot(PairError):
    """Raised for what is no spot of a desk."""

    def __init__(self, value=None):
        self.value = value


class InvalidScript(PairError):
    """Raised for what is no script."""

    def __init__(self, value=None):
        self.value = value


class InvalidText(PairError):
    """Raised for what is no text of the asked kind."""

    def __init__(self, value=None):
        self.value = value


class InvalidRecord(PairError):
    """Raised for what is no record."""

    def __init__(self, value=None):
        self.value = value


class Unlike(PairError):
    """Raised for what has not the same marks, book or places as what stands beside it."""

    def __init__(self, value=None):
        self.value = value


class Unmajored(PairError):
    """Raised for a book that no majority keeps."""

    def __init__(self, value=None):
        self.value = value


class Refused(PairError):
    """Raised for what cannot be done as things stand."""

    def __init__(self, value=None):
        self.value = value


class NothingToUndo(PairError):
    """Raised where there is no command to take back."""


class NothingToRedo(PairError):
    """Raised where there is no command to make again."""
