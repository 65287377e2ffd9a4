"""Tallies: how often walks put a value, as a function of its numbers in both rows."""

from twoheads.blocks import blocks_from
from twoheads.books import Book, small_reach
from twoheads.errors import BadName
from twoheads.items import is_number

USUAL = {
    "sum": (1, 1, 0, 0), "union": (1, 1, -1, 0), "both": (0, 0, 1, 0), "lacks": (1, 0, -1, 0),
    "xor": (1, 1, -2, 0), "join": (0, 0, 0, 1), "left": (1, 0, 0, 0), "right": (0, 1, 0, 0),
    "none": (0, 0, 0, 0),
}


class Tally:
    """The function a m + b n + c min(m, n) + e m n."""

    def __init__(self, a, b, c=0, e=0):
        self.a = a
        self.b = b
        self.c = c
        self.e = e

    def __call__(self, m, n):
        return self.a * m + self.b * n + self.c * min(m, n) + self.e * m * n

    def terms(self):
        """The tuple of the four numbers."""
        return (self.a, self.b, self.c, self.e)

    def __eq__(self, other):
        return isinstance(other, Tally) and self.terms() == other.terms()

    def __add__(self, other):
        if not isinstance(other, Tally):
            return NotImplemented
        return Tally(self.a + other.a, self.b + other.b, self.c + other.c, self.e + other.e)

    def __sub__(self, other):
        if not isinstance(other, Tally):
            return NotImplemented
        return Tally(self.a - other.a, self.b - other.b, self.c - other.c, self.e - other.e)

    def __mul__(self, other):
        if not is_number(other):
            return NotImplemented
        return Tally(self.a * other, self.b * other, self.c * other, self.e * other)

    def __rmul__(self, other):
        if not is_number(other):
            return NotImplemented
        return Tally(self.a * other, self.b * other, self.c * other, self.e * other)

    def __neg__(self):
        return Tally(self.b, self.a, self.c, self.e)

    def under(self, other):
        """Whether it is at most another tally for all m and n.

        For m = n + k what is between them is n (a + b + c + e n) + k (a + e n), and likewise
        with b for n = m + k. So n = 0, n = 1 and great n tell all: e must not be below 0, and
        then n = 1 is the least of those with n above 0.
        """
        a, b, c, e = (other - self).terms()
        return a >= 0 and b >= 0 and e >= 0 and a + b + c + e >= 0

    @staticmethod
    def usual(name):
        """The tally that has the name."""
        if not isinstance(name, str) or name not in USUAL:
            raise BadName(name)
        a, b, c, e = USUAL[name]
        return Tally(a, b, c, e)

    @property
    def label(self):
        """The name of the tally, or None."""
        for name, terms in USUAL.items():
            if terms == self.terms():
                return name
        return None


def tally_of(walk):
    """The tally that a fit walk has, or None."""
    book = Book(walk)
    reach = small_reach(book)
    tally = only_tally(book)
    for entry in book.entries():
        found = blocks_from(book.halves, entry, reach)
        for (m, n, more_left, more_right), (many, behind) in found.items():
            if tally(m, n) != many:
                return None
            if behind is None and not is_spent(tally, more_left, more_right):
                return None
    return tally


def only_tally(book):
    """The only tally that a walk with this book can have, told by its least blocks."""
    a, b = book[1, 0], book[0, 1]
    e = book[2, 1] - book[1, 1] - a
    c = book[1, 1] - a - b - e
    return Tally(a, b, c, e)


def is_spent(tally, left, right):
    """Whether a tally is 0 for all values behind the end of a run; these rows have them."""
    if left and right:
        return tally == Tally(0, 0)
    return tally(1 if left else 0, 1 if right else 0) == 0
