"""What walks do in all blocks up to a reach, told so that two of them can be compared."""

from twoheads.blocks import blocks_from
from twoheads.halves import EITHER


class Outcomes:
    """What a walk does from entries in all blocks that fit them, with m and n up to `most`.

    Its halves have to know all entries that are asked for. What was told once stays known.
    """

    def __init__(self, halves, most):
        self.halves = halves
        self.most = most
        self.told = {}
        self.orders = {}

    def ordered_blocks(self, left, right):
        """The list of the blocks for these rows ahead, those of fewer items first."""
        if (left, right) not in self.orders:
            self.orders[left, right] = sorted(fitting_blocks(left, right, self.most), key=block_length)
        return self.orders[left, right]

    def of_entry(self, mode, left, right):
        """The lists of the numbers put and of the modes behind, for the blocks in their order.

        None if something is wrong in one of them. A run that has ended has the mode None.
        """
        entry = (mode, left, right)
        if entry not in self.told:
            blocks = self.ordered_blocks(left, right)
            if mode is None:
                self.told[entry] = ([0] * len(blocks), [None] * len(blocks))
            else:
                self.told[entry] = aligned(blocks, blocks_from(self.halves, entry, self.most))
        return self.told[entry]


def aligned(blocks, found):
    """The lists of both parts of what comes of these blocks, or None if something is wrong."""
    told = [found[block] for block in blocks]
    if None in told:
        return None
    return [many for many, _ in told], [mode for _, mode in told]


def fitting_blocks(left, right, most):
    """The list of the blocks for these rows ahead, with m and n up to a number."""
    return [
        (m, n, more_left, more_right)
        for m, more_left in own_numbers(left, most) for n, more_right in own_numbers(right, most) if m + n > 0
    ]


def own_numbers(is_ahead, most):
    """The pairs of a number of items of one row in a block, and whether the row has more."""
    if not is_ahead:
        return [(0, False)]
    return [(0, True)] + [(many, more) for many in range(1, most + 1) for more in EITHER]


def block_length(block):
    """The least number of items of two rows that go on with a block."""
    m, n, more_left, more_right = block
    return m + n + (1 if more_left else 0) + (1 if more_right else 0)
