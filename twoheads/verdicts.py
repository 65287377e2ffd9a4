"""Verdicts: answers that bring a paper which shows them."""


class Verdict:
    """The base class of verdicts: a word, and a tuple that shows it."""

    def __init__(self, word, paper):
        self.word = word
        self.paper = paper

    def __eq__(self, other):
        return isinstance(other, Verdict) and self.word == other.word and self.paper == other.paper

    def __bool__(self):
        return self.word in ("holds", "alike")


class Holds(Verdict):
    """A claim is kept, as a table shows."""

    def __init__(self, table):
        Verdict.__init__(self, "holds", table)

    def __eq__(self, other):
        return isinstance(other, Holds) and self.paper == other.paper

    def __bool__(self):
        return True


class Alike(Verdict):
    """Two walks are alike, as a table shows."""

    def __init__(self, table):
        Verdict.__init__(self, "alike", table)

    def __eq__(self, other):
        return isinstance(other, Alike) and self.paper == other.paper

    def __bool__(self):
        return True


class Rows(Verdict):
    """The base class of verdicts that a pair of rows shows, told as tuples of ranks."""

    def __init__(self, word, left, right):
        Verdict.__init__(self, word, (left, right))
        self.left = left
        self.right = right

    def __eq__(self, other):
        return isinstance(other, Rows) and self.word == other.word and self.paper == other.paper

    def __bool__(self):
        return False


class Breaks(Rows):
    """A claim is not kept, as a run on two rows shows."""

    def __init__(self, left, right):
        Rows.__init__(self, "breaks", left, right)

    def __eq__(self, other):
        return isinstance(other, Breaks) and self.paper == other.paper

    def __bool__(self):
        return False


class Parted(Rows):
    """Two walks are not alike, as runs on two rows show."""

    def __init__(self, left, right):
        Rows.__init__(self, "parted", left, right)

    def __eq__(self, other):
        return isinstance(other, Parted) and self.paper == other.paper

    def __bool__(self):
        return False
