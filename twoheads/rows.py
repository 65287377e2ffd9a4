"""Rows: ascending lists of items, which are bags of ranks, too."""

from twoheads.bags import as_items, by_rank, need_row, taken
from twoheads.errors import BadPlace
from twoheads.items import Item, is_number
from twoheads.trials import Trial


class Row:
    """An ascending row of at most 200 items; `state` is the tuple of them."""

    MOST = 200

    def __init__(self, items=()):
        found = as_items(items)
        need_row(found, self.MOST)
        self.state = tuple(found)

    @classmethod
    def of(cls, *items):
        """The row of these items in ascending order."""
        return cls(sorted(as_items(items), key=lambda item: item.rank))

    def __len__(self):
        return len(self.state)

    def __iter__(self):
        return iter(self.state)

    def __getitem__(self, at):
        if isinstance(at, tuple):
            first, behind = at
            return self.stretch(first, behind)
        if not 0 <= at < len(self.state):
            raise BadPlace(at)
        return self.state[at]

    def stretch(self, first, behind):
        """The list of the items from an index to ahead of another one."""
        if not 0 <= first <= len(self.state):
            raise BadPlace(first)
        if not first <= behind <= len(self.state):
            raise BadPlace(behind)
        return list(self.state[first:behind])

    def __setitem__(self, at, worth):
        if not 0 <= at < len(self.state):
            raise BadPlace(at)
        found = list(self.state)
        found[at] = worth
        # All other values are items, so a wrong one is found with its own index.
        self.state = Row(found).state

    def __contains__(self, x):
        if isinstance(x, Item):
            return x.rank in self.ranks()
        return is_number(x) and x in self.ranks()

    def __eq__(self, other):
        return isinstance(other, Row) and self.ranks() == other.ranks()

    def listed(self):
        """The list of the items."""
        return list(self.state)

    def ranks(self):
        """The list of the ranks of the items."""
        return [item.rank for item in self.state]

    def number(self, rank):
        """How many items have this rank."""
        return self.ranks().count(rank)

    def blocks(self):
        """Yields pairs (rank, number of items), ascending."""
        found = by_rank(self.state)
        for rank in found:
            yield rank, len(found[rank])

    def within(self, other):
        """Whether each rank occurs here at most as often as in another row."""
        return all([many <= other.number(rank) for rank, many in self.blocks()])

    def __add__(self, other):
        if not isinstance(other, (Row, list, tuple)):
            return NotImplemented
        return joined("+", self, other)

    def __radd__(self, other):
        if not isinstance(other, (list, tuple)):
            return NotImplemented
        return joined("+", other, self)

    def __iadd__(self, other):
        if not isinstance(other, (Row, list, tuple)):
            return NotImplemented
        self.state = joined("+", self, other).state
        return self

    def __or__(self, other):
        if not isinstance(other, (Row, list, tuple)):
            return NotImplemented
        return joined("|", self, other)

    def __ror__(self, other):
        if not isinstance(other, (list, tuple)):
            return NotImplemented
        return joined("|", other, self)

    def __ior__(self, other):
        if not isinstance(other, (Row, list, tuple)):
            return NotImplemented
        self.state = joined("|", self, other).state
        return self

    def __and__(self, other):
        if not isinstance(other, (Row, list, tuple)):
            return NotImplemented
        return joined("&", self, other)

    def __rand__(self, other):
        if not isinstance(other, (list, tuple)):
            return NotImplemented
        return joined("&", other, self)

    def __iand__(self, other):
        if not isinstance(other, (Row, list, tuple)):
            return NotImplemented
        self.state = joined("&", self, other).state
        return self

    def __sub__(self, other):
        if not isinstance(other, (Row, list, tuple)):
            return NotImplemented
        return joined("-", self, other)

    def __rsub__(self, other):
        if not isinstance(other, (list, tuple)):
            return NotImplemented
        return joined("-", other, self)

    def __isub__(self, other):
        if not isinstance(other, (Row, list, tuple)):
            return NotImplemented
        self.state = joined("-", self, other).state
        return self

    def __xor__(self, other):
        if not isinstance(other, (Row, list, tuple)):
            return NotImplemented
        return joined("^", self, other)

    def __rxor__(self, other):
        if not isinstance(other, (list, tuple)):
            return NotImplemented
        return joined("^", other, self)

    def __ixor__(self, other):
        if not isinstance(other, (Row, list, tuple)):
            return NotImplemented
        self.state = joined("^", self, other).state
        return self

    def __mul__(self, other):
        if not is_number(other):
            return NotImplemented
        return repeated(self, other)

    def __rmul__(self, other):
        if not is_number(other):
            return NotImplemented
        return repeated(self, other)

    def settle(self, by):
        """Sorts the doubles of each rank by what the callable returns for an item."""
        items = self.state
        answers = [by(item) for item in items]
        order = sorted(list(range(len(items))), key=lambda k: (items[k].rank, answers[k]))
        self.state = tuple([items[k] for k in order])

    def trial(self):
        """A block behind which the row is as before, if an error ends it."""
        return Trial(self)

    def attempt(self, deed):
        """What the function returns for the row, called within a trial."""
        with self.trial() as held:
            return deed(held)


def joined(sign, left, right):
    """The row that a sign makes of two rows, lists or tuples."""
    return Row(taken(sign, Row(left).state, Row(right).state))


def repeated(row, many):
    """The row with each item of a row so many times, one after another."""
    return Row([item for item in row.state for _ in range(many)])
