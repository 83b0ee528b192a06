"""The errors that the package raises."""


class BacklinkError(ValueError):
    """The base class of all errors of the package."""


class InvalidLog(BacklinkError):
    """A value is not a log."""


class InvalidEntry(BacklinkError):
    """A value is not an entry that may stand there."""


class InvalidTarget(BacklinkError):
    """A value is not an entry that a further entry may link to."""


class InvalidChain(BacklinkError):
    """A value is not a chain of the log."""


class InvalidNumber(BacklinkError):
    """A value is not one of the numbers that are given out."""


class InvalidSize(BacklinkError):
    """A value is not a size that a log may have there."""


class InvalidKnown(BacklinkError):
    """A value is not known links of the size."""


class InvalidPrices(BacklinkError):
    """A value is not prices."""


class InvalidBase(BacklinkError):
    """A value is not a base of a ruler log."""


class InvalidTag(BacklinkError):
    """A value is not a tag, or no entry has it."""


class InvalidText(BacklinkError):
    """A value is not a text of what is read."""


class InvalidCommand(BacklinkError):
    """A value is not a command."""


class Different(BacklinkError):
    """Two values do not fit each other."""


class NothingToUndo(BacklinkError):
    """No change is left that could be reverted."""


class Crossing(BacklinkError):
    """The links of two entries cross."""

    def __init__(self, entry, other):
        super().__init__(f"the links of the entries {entry} and {other} cross")
        self.entry = entry
        self.other = other


class InvalidChange(BacklinkError):
    """One of several changes can't be performed."""

    def __init__(self, index):
        super().__init__(f"the change with the index {index} can't be performed")
        self.index = index
