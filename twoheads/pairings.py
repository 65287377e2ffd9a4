"""Two walks side by side: the paired entries that come about, and rows that part the walks."""

from twoheads.outcomes import block_length
from twoheads.ways import Ways


class Pairing:
    """The paired entries that come about from some first ones, by the shortest rows.

    `one` and `other` tell the outcomes of both walks. `parted` is None if they put equally many
    items in all blocks; else it is a triple (length, paired entry, block) of the shortest rows
    on which they do not, and then not all paired entries are looked at.
    """

    def __init__(self, one, other, first):
        self.one = one
        self.other = other
        self.parted = None
        self.ways = Ways()
        for entry in first:
            self.ways.offer(0, entry, None, None)
        entry = self.ways.take()
        while entry is not None and not self.is_behind(self.ways.length(entry)):
            self.look(entry)
            entry = self.ways.take()

    def is_behind(self, length):
        """Whether shorter rows than these part the walks, or rows as long."""
        return self.parted is not None and self.parted[0] <= length

    def look(self, entry):
        """Offers all paired entries behind one, and keeps the shortest block that parts the walks."""
        one, other, left, right = entry
        length = self.ways.length(entry)
        many_one, modes_one = self.one.of_entry(one, left, right)
        many_other, modes_other = self.other.of_entry(other, left, right)
        behind = {}
        for k, block in enumerate(self.one.ordered_blocks(left, right)):
            if many_one[k] == many_other[k]:
                behind.setdefault((modes_one[k], modes_other[k], block[2], block[3]), block)
            elif not self.is_behind(length + block_length(block)):
                self.parted = (length + block_length(block), entry, block)
        for after, (m, n, more_left, more_right) in behind.items():
            if after[:2] != (None, None):
                self.ways.offer(length + m + n, after, entry, (m, n, more_left, more_right))

    def entries(self):
        """The list of the paired entries that were looked at."""
        return list(self.ways.taken)

    def rows(self):
        """A pair of shortest rows that part the walks, as tuples of ranks."""
        _, entry, block = self.parted
        _, way = self.ways.way_to(entry)
        return rows_of_blocks([led for led, _ in way] + [block])


def rows_of_blocks(blocks):
    """A pair of rows that have these blocks one behind another, and what must come behind them."""
    left = []
    right = []
    for rank, (m, n, _, _) in enumerate(blocks):
        left.extend([rank] * m)
        right.extend([rank] * n)
    _, _, more_left, more_right = blocks[-1]
    if more_left:
        left.append(len(blocks))
    if more_right:
        right.append(len(blocks))
    return tuple(left), tuple(right)
