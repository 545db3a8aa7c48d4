"""The errors that the package raises."""


class TileError(ValueError):
    """The base class of all errors that the package raises."""


class InvalidRow(TileError):
    """A value is not a row."""


class InvalidRuns(TileError):
    """A value is not runs."""


class InvalidSide(TileError):
    """A value is not a side."""


class InvalidPushes(TileError):
    """A value is not a list of pushes, or not one that may stand here."""


class InvalidLevel(TileError):
    """A value is not a level that may stand here."""


class InvalidNumber(TileError):
    """A value is not a number that may stand here."""


class InvalidIndex(TileError):
    """A value is not an index that may stand here."""


class InvalidText(TileError):
    """A value is not the text of what is read."""


class InvalidCommand(TileError):
    """A value is not a command."""


class NotPushes(TileError):
    """A value is not a list of pushes as an object."""


class NoMountain(TileError):
    """A row is not a mountain."""


class NotBefore(TileError):
    """A value is not a row before another one."""


class NothingToUndo(TileError):
    """No change is left to revert."""


class NoTray(TileError):
    """A desk has no tray yet."""


class TooLarge(TileError):
    """Something is larger than a limit, which is kept in the field limit."""

    def __init__(self, limit):
        super().__init__(f"more than {limit}")
        self.limit = limit


class TooFew(TileError):
    """Something is less than what is needed, which is kept in the field needed."""

    def __init__(self, needed):
        super().__init__(f"fewer than {needed}")
        self.needed = needed
