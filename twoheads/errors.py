"""The errors of the package; each keeps its fields as they were passed."""


class HeadsError(ValueError):
    """The base class of all errors."""


class BadInput(HeadsError):
    """Something that was passed breaks a promise of its form."""


class Fall(HeadsError):
    """A run falls."""


class Refused(HeadsError):
    """What is asked cannot be done for what is there."""


class BadItem(BadInput):
    """A part of an item, or a value that should be one, is wrong."""

    def __init__(self, part):
        self.part = part


class BadPlace(BadInput):
    """There is no such place."""

    def __init__(self, at):
        self.at = at


class Disordered(BadInput):
    """The item at this index is less than the one before it."""

    def __init__(self, at):
        self.at = at


class BadTest(BadInput):
    """A word of a test is wrong, by case and word."""

    def __init__(self, at, word):
        self.at = at
        self.word = word


class BadWalk(BadInput):
    """Statements make no walk, for this reason at this line."""

    def __init__(self, reason, line):
        self.reason = reason
        self.line = line


class BadText(BadInput):
    """A word of a text cannot stand there, by row and word."""

    def __init__(self, row, word):
        self.row = row
        self.word = word


class BadName(BadInput):
    """Nothing has this name."""

    def __init__(self, name):
        self.name = name


class Behind(Fall):
    """A run needs a head of a row that is ended."""

    def __init__(self, line, side):
        self.line = line
        self.side = side


class Unlike(Fall):
    """A run comes to pairs with heads that are not equal."""

    def __init__(self, line):
        self.line = line


class Endless(Fall):
    """A run comes to a moment at which it was before."""

    def __init__(self, line):
        self.line = line


class Unfit(Refused):
    """A walk does not keep what is needed here."""

    def __init__(self, claim):
        self.claim = claim


class TooMany(Refused):
    """There would be more than this many."""

    def __init__(self, most):
        self.most = most


class TooLarge(Refused):
    """A reach is greater than this."""

    def __init__(self, most):
        self.most = most


class NotNow(Refused):
    """This cannot be done now."""

    def __init__(self, what):
        self.what = what
