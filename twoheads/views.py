"""Views: what a walk can see at a moment of a run."""

from twoheads.errors import Behind
from twoheads.words import NEWS, ORDERS, SIDES


class View:
    """The ranks of both heads and of the last item, None for what is not there.

    `raised` is the ascending tuple of the flags that are set.
    """

    def __init__(self, left, right, last, raised):
        self.left = left
        self.right = right
        self.last = last
        self.raised = raised

    def seen(self, side):
        """The rank of the head of a side, or None."""
        if side == "left":
            return self.left
        return self.right

    def need(self, line, side):
        """Raises Behind if a row whose head is needed is ended."""
        if self.seen(side) is None:
            raise Behind(line, side)

    def need_both(self, line):
        """Raises Behind if one of the rows is ended, for the left one first."""
        self.need(line, "left")
        self.need(line, "right")

    def answer(self, line, word):
        """Whether a word of a test is true."""
        if word in SIDES:
            return self.seen(word) is not None
        if word in ORDERS:
            self.need_both(line)
            return word == order_of(self.left, self.right)
        if word in NEWS:
            side = word[4:]
            self.need(line, side)
            return self.last != self.seen(side)
        return word in self.raised


def order_of(left, right):
    """The word that tells how two ranks stand."""
    if left < right:
        return "less"
    if left == right:
        return "equal"
    return "more"


def with_flag(raised, flag):
    """The ascending tuple of the flags as soon as one is set."""
    return tuple(sorted({name for name in [*raised, flag]}))


def without_flag(raised, flag):
    """The ascending tuple of the flags as soon as one is clear."""
    return tuple([name for name in raised if name != flag])
