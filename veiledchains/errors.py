"""The errors of this package.

No message tells what was passed: it may be too great to be written.
"""


class ChainError(ValueError):
    """What all errors of this package are."""


class Unfit(ChainError):
    """What was handed in does not fit."""


class BadText(ChainError):
    """This is the text of no such thing."""


class BadChain(ChainError):
    """This is no chain: error is what chain_error tells of it."""

    def __init__(self, error):
        ChainError.__init__(self, "this is no chain")
        self.error = error


class Never(ChainError):
    """The chance of this is 0."""


class NoRank(ChainError):
    """Nothing has the number given."""

    def __init__(self, given):
        ChainError.__init__(self, "nothing has this number")
        self.given = given


class TooMany(ChainError):
    """More than limit are asked for."""

    def __init__(self, limit):
        ChainError.__init__(self, "this is beyond the limit")
        self.limit = limit


class NothingToUndo(ChainError):
    """No edit stands."""


class BadLog(ChainError):
    """This is no log: place is that of the first bad item, or -1."""

    def __init__(self, place):
        ChainError.__init__(self, "this is no log")
        self.place = place
