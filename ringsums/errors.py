"""The errors of this package."""


class RingError(ValueError):
    """The base class of all errors here but NoBlock."""


class InvalidForm(RingError):
    """An argument of a form is wrong: word is its name."""

    def __init__(self, word):
        self.word = word


class InvalidLane(RingError):
    """An argument of a lane is wrong: word is its name."""

    def __init__(self, word):
        self.word = word


class InvalidBlock(RingError):
    """An argument of a block is wrong: word is its name."""

    def __init__(self, word):
        self.word = word


class InvalidPlan(RingError):
    """A plan was to be made of something that is no sequence of blocks."""


class InvalidText(RingError):
    """A text cannot be read: at is the number of the line where it goes wrong."""

    def __init__(self, at):
        self.at = at


class InvalidRows(RingError):
    """Rows are wrong: at is the number of the first wrong one."""

    def __init__(self, at):
        self.at = at


class InvalidSlip(RingError):
    """An argument of a slip is wrong: word is its name."""

    def __init__(self, word):
        self.word = word


class InvalidCalendar(RingError):
    """An argument of a calendar is wrong: word is its name."""

    def __init__(self, word):
        self.word = word


class InvalidFault(RingError):
    """There is no such fault."""


class InvalidCommand(RingError):
    """There is no such command, or it cannot be done now."""


class Refused(RingError):
    """Something cannot be done: at tells which thing."""

    def __init__(self, at):
        self.at = at


class NoBlock(IndexError):
    """A plan has no block with the number at."""

    def __init__(self, at):
        self.at = at
