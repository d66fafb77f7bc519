"""The errors of the package, each derived from TongueError alone."""


class TongueError(ValueError):
    """Any error of this package."""


class InvalidToken(TongueError):
    """No token."""

    def __init__(self, value=None):
        self.value = value


class InvalidText(TongueError):
    """No text, line or lines."""

    def __init__(self, value=None):
        self.value = value


class InvalidForm(TongueError):
    """No form."""

    def __init__(self, value=None):
        self.value = value


class InvalidForms(TongueError):
    """No list of forms."""

    def __init__(self, value=None):
        self.value = value


class InvalidWords(TongueError):
    """No list of words."""

    def __init__(self, value=None):
        self.value = value


class Unsound(TongueError):
    """No sound edition; the value is the first clash."""

    def __init__(self, value=None):
        self.value = value


class InvalidEdition(TongueError):
    """No edition."""

    def __init__(self, value=None):
        self.value = value


class InvalidEditions(TongueError):
    """No list of editions."""

    def __init__(self, value=None):
        self.value = value


class InvalidChange(TongueError):
    """No change that fits."""

    def __init__(self, value=None):
        self.value = value


class InvalidChanges(TongueError):
    """No list of changes."""

    def __init__(self, value=None):
        self.value = value


class InvalidPattern(TongueError):
    """No pattern."""

    def __init__(self, value=None):
        self.value = value


class Fault(TongueError):
    """A text that is not read; the value is the position of the fault."""

    def __init__(self, value=None):
        self.value = value


class InvalidKey(TongueError):
    """No key."""

    def __init__(self, value=None):
        self.value = value


class InvalidTree(TongueError):
    """No tree."""

    def __init__(self, value=None):
        self.value = value


class UnknownForm(TongueError):
    """The pattern of a form that an edition lacks."""

    def __init__(self, value=None):
        self.value = value


class InvalidPath(TongueError):
    """No path of the tree."""

    def __init__(self, value=None):
        self.value = value


class InvalidSpot(TongueError):
    """No spot of an open text."""

    def __init__(self, value=None):
        self.value = value


class InvalidMarks(TongueError):
    """No marks."""

    def __init__(self, value=None):
        self.value = value


class InvalidWay(TongueError):
    """No way."""

    def __init__(self, value=None):
        self.value = value


class InvalidTable(TongueError):
    """No table."""

    def __init__(self, value=None):
        self.value = value


class InvalidWorkshop(TongueError):
    """No workshop."""

    def __init__(self, value=None):
        self.value = value


class InvalidLog(TongueError):
    """No log."""

    def __init__(self, value=None):
        self.value = value


class InvalidScript(TongueError):
    """No script."""

    def __init__(self, value=None):
        self.value = value


class InvalidCount(TongueError):
    """No count within its bounds."""

    def __init__(self, value=None):
        self.value = value


class Refused(TongueError):
    """A command that cannot be done."""

    def __init__(self, value=None):
        self.value = value


class InvalidEdit(TongueError):
    """No edit that fits its text."""

    def __init__(self, value=None):
        self.value = value


class UnknownPlace(TongueError):
    """A place that an edition lacks."""

    def __init__(self, value=None):
        self.value = value


class InvalidReason(TongueError):
    """No reason."""

    def __init__(self, value=None):
        self.value = value


class InvalidStack(TongueError):
    """No stack or frame."""

    def __init__(self, value=None):
        self.value = value


class InvalidRow(TongueError):
    """No row."""

    def __init__(self, value=None):
        self.value = value


class InvalidLot(TongueError):
    """No lot of changes."""

    def __init__(self, value=None):
        self.value = value


class InvalidSurroundings(TongueError):
    """No surroundings."""

    def __init__(self, value=None):
        self.value = value


class InvalidLook(TongueError):
    """No look."""

    def __init__(self, value=None):
        self.value = value


class NothingToUndo(TongueError):
    """No command to take back."""


class NothingToRedo(TongueError):
    """No command to make again."""
