"""The statements of walks.

Each class of statements defines all that can be asked of a statement, as the interface
lists it for each of them.
"""

from twoheads.words import exchanged


class Part:
    """The base class of all statements; each kind tells these in its own class."""

    def __eq__(self, other):
        return isinstance(other, Part) and self.word == other.word

    def head(self):
        """The first row of the text, without spaces in front."""
        raise NotImplementedError("each kind of statement has its own text")

    def turned(self):
        """The statement with the sides exchanged."""
        raise NotImplementedError("each kind of statement is turned in its own way")

    @property
    def size(self):
        """The number of statements in this one, itself included."""
        return 1


class Sided:
    """The base class of statements with a side."""


class Act(Part):
    """The base class of statements without blocks."""


class Flagged(Act):
    """The base class of statements with a flag."""


class Branch(Part):
    """The base class of statements with a test and blocks."""


class Put(Act, Sided):
    """Puts the head of a side."""

    def __init__(self, side):
        self.word = "put"
        self.side = side

    def __eq__(self, other):
        return isinstance(other, Put) and self.side == other.side

    def head(self):
        """The row of text."""
        return f"put {self.side}"

    def turned(self):
        """The statement with the other side."""
        return Put(exchanged(self.side))

    @property
    def size(self):
        """One statement."""
        return 1


class Step(Act, Sided):
    """Moves the cursor of a side on by one."""

    def __init__(self, side):
        self.word = "step"
        self.side = side

    def __eq__(self, other):
        return isinstance(other, Step) and self.side == other.side

    def head(self):
        """The row of text."""
        return f"step {self.side}"

    def turned(self):
        """The statement with the other side."""
        return Step(exchanged(self.side))

    @property
    def size(self):
        """One statement."""
        return 1


class Pairs(Act, Sided):
    """Puts the equal items of a side once for each equal item of the other one."""

    def __init__(self, side):
        self.word = "pairs"
        self.side = side

    def __eq__(self, other):
        return isinstance(other, Pairs) and self.side == other.side

    def head(self):
        """The row of text."""
        return f"pairs {self.side}"

    def turned(self):
        """The statement with the other side."""
        return Pairs(exchanged(self.side))

    @property
    def size(self):
        """One statement."""
        return 1


class Set(Flagged):
    """Sets a flag."""

    def __init__(self, flag):
        self.word = "set"
        self.flag = flag

    def __eq__(self, other):
        return isinstance(other, Set) and self.flag == other.flag

    def head(self):
        """The row of text."""
        return f"set {self.flag}"

    def turned(self):
        """The same statement: a flag has no side."""
        return Set(self.flag)

    @property
    def size(self):
        """One statement."""
        return 1


class Clear(Flagged):
    """Clears a flag."""

    def __init__(self, flag):
        self.word = "clear"
        self.flag = flag

    def __eq__(self, other):
        return isinstance(other, Clear) and self.flag == other.flag

    def head(self):
        """The row of text."""
        return f"clear {self.flag}"

    def turned(self):
        """The same statement: a flag has no side."""
        return Clear(self.flag)

    @property
    def size(self):
        """One statement."""
        return 1


class Break(Act):
    """Leaves the innermost `while` in whose block it stands."""

    def __init__(self):
        self.word = "break"

    def __eq__(self, other):
        return isinstance(other, Break)

    def head(self):
        """The row of text."""
        return "break"

    def turned(self):
        """The same statement: it has no side."""
        return Break()

    @property
    def size(self):
        """One statement."""
        return 1


class Stop(Act):
    """Ends the run."""

    def __init__(self):
        self.word = "stop"

    def __eq__(self, other):
        return isinstance(other, Stop)

    def head(self):
        """The row of text."""
        return "stop"

    def turned(self):
        """The same statement: it has no side."""
        return Stop()

    @property
    def size(self):
        """One statement."""
        return 1


class If(Branch):
    """Does its block if the test is true, else its other block."""

    def __init__(self, test, block, other=()):
        self.word = "if"
        self.test = test
        self.block = tuple(block)
        self.other = tuple(other)

    def __eq__(self, other):
        return isinstance(other, If) and are_equal_branches(self, other)

    def head(self):
        """The first row of text."""
        return f"if {self.test}"

    def turned(self):
        """The statement with the sides exchanged in its test and blocks."""
        return If(self.test.turned(), all_turned(self.block), all_turned(self.other))

    @property
    def size(self):
        """The number of statements in this one, itself included."""
        return 1 + size_of_all(self.block) + size_of_all(self.other)


class While(Branch):
    """Does its block as long as the test is true, then its other block."""

    def __init__(self, test, block, other=()):
        self.word = "while"
        self.test = test
        self.block = tuple(block)
        self.other = tuple(other)

    def __eq__(self, other):
        return isinstance(other, While) and are_equal_branches(self, other)

    def head(self):
        """The first row of text."""
        return f"while {self.test}"

    def turned(self):
        """The statement with the sides exchanged in its test and blocks."""
        return While(self.test.turned(), all_turned(self.block), all_turned(self.other))

    @property
    def size(self):
        """The number of statements in this one, itself included."""
        return 1 + size_of_all(self.block) + size_of_all(self.other)


def are_equal_branches(one, other):
    """Whether two statements of one kind have equal tests and blocks."""
    return one.test == other.test and one.block == other.block and one.other == other.other


def all_turned(parts):
    """The list of the statements with the sides exchanged."""
    return [part.turned() for part in parts]


def size_of_all(parts):
    """The number of statements in a block."""
    return sum([part.size for part in parts])


def flags_of(part):
    """The ascending list of the flags that the statement itself names."""
    if isinstance(part, Branch):
        return part.test.flag_names()
    if isinstance(part, Flagged):
        return [part.flag]
    return []
