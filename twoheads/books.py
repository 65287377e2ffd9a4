"""Books: what fit walks do with blocks."""

from math import lcm

from twoheads.blocks import done_block
from twoheads.errors import BadPlace, TooLarge
from twoheads.fits import fit_halves
from twoheads.halves import measured

GREATEST = 12
LARGEST = 24


class Book:
    """What a fit walk does; `longest` and `common` measure its starts and rings."""

    def __init__(self, walk):
        self.halves = fit_halves(walk)
        self.walk = walk
        self.longest = 0
        self.common = 1
        for at in self.halves.begun:
            start, ring = measured(self.halves.deeds, at)
            self.longest = max(self.longest, start[0], start[1])
            for many in ring:
                if many > 0:
                    self.common = lcm(self.common, many)

    def __call__(self, mode, m, n, more_left, more_right):
        return done_block(self.halves, mode, m, n, more_left, more_right)

    def __getitem__(self, at):
        m, n = at
        if not 0 <= m <= GREATEST or not 0 <= n <= GREATEST or m + n == 0:
            raise BadPlace((m, n))
        many, _ = done_block(self.halves, (0, ()), m, n, True, True)
        return many

    def __iter__(self):
        raise TypeError("a book is not iterated over: entries() tells its entries")

    def entries(self):
        """The ascending list of the reached entries."""
        return sorted(list(self.halves.reached))

    @property
    def lead(self):
        """The greatest number of items of one row that are stepped in a start."""
        return self.longest

    @property
    def cycle(self):
        """The least common multiple of the numbers of items that are stepped in rings."""
        return self.common

    @property
    def reach(self):
        """The number of items up to which blocks show what greater ones do."""
        return reach_of(self.longest, self.common)


def reach_of(lead, cycle):
    """The reach that starts and rings with these measures have."""
    return 4 * lead + 8 * cycle


def small_reach(book):
    """The reach of a walk; raises TooLarge if there are too many blocks up to it."""
    return need_small(book.reach)


def joint_reach(one, other):
    """The reach of two walks; raises TooLarge if there are too many blocks up to it."""
    return need_small(reach_of(max(one.lead, other.lead), lcm(one.cycle, other.cycle)))


def need_small(reach):
    """A reach that is not too great to look at all blocks up to it."""
    if reach > LARGEST:
        raise TooLarge(LARGEST)
    return reach
