"""The errors that the package raises.

What an error was made with is kept as it was passed. It is not put into the
message: it may be any value, also one of a size that no message should have.
"""


class KeeperError(ValueError):
    """Any error of this package."""


class Unfit(KeeperError):
    """What was handed in does not fit what was asked."""

    def __init__(self):
        KeeperError.__init__(self, "this does not fit what was asked")


class BadText(KeeperError):
    """A text is not built as told; line is the number of its first wrong line."""

    def __init__(self, line):
        KeeperError.__init__(self, "a line of the text is not built as told")
        self.line = line


class BadLog(KeeperError):
    """A log cannot be followed; place is that of its first wrong call."""

    def __init__(self, place):
        KeeperError.__init__(self, "a call of the log cannot be made")
        self.place = place


class BadRun(KeeperError):
    """Deeds cannot be done; place is that of the first one that cannot."""

    def __init__(self, place):
        KeeperError.__init__(self, "a deed of the run cannot be done")
        self.place = place


class Refused(KeeperError):
    """A deed or an edit is refused; word says why."""

    def __init__(self, word):
        KeeperError.__init__(self, "this deed or edit is refused")
        self.word = word


class TooMany(KeeperError):
    """There are more than limit of what is counted."""

    def __init__(self, limit):
        KeeperError.__init__(self, "there are more than the limit allows")
        self.limit = limit


class NothingToUndo(KeeperError):
    """No edit stands that could be undone."""

    def __init__(self):
        KeeperError.__init__(self, "no edit stands that could be undone")


class NothingToRedo(KeeperError):
    """No edit was taken back that could be done again."""

    def __init__(self):
        KeeperError.__init__(self, "no edit was taken back that could be done again")


class TooManyEdits(KeeperError):
    """As many edits stand as may stand."""

    def __init__(self):
        KeeperError.__init__(self, "as many edits stand as may stand")
