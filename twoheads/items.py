"""Items: a rank, by which they are equal and ordered, and a name."""

from twoheads.errors import BadItem
from twoheads.words import is_lettered

BEYOND = 10 ** 30


def is_number(value):
    """Whether any value is an integer and no bool."""
    return isinstance(value, int) and not isinstance(value, bool)


def is_rank(value):
    """Whether any value is an integer of at most 30 digits."""
    return is_number(value) and -BEYOND < value < BEYOND


class Item:
    """An item of a row."""

    def __init__(self, rank, name=""):
        if not is_rank(rank):
            raise BadItem("rank")
        if not is_lettered(name):
            raise BadItem("name")
        self.rank = rank
        self.name = name

    def __eq__(self, other):
        return isinstance(other, Item) and self.rank == other.rank

    def __str__(self):
        return f"{self.rank}{self.name}"

    def before(self, other):
        """Whether the rank is less than that of another item."""
        return self.rank < other.rank

    def same(self, other):
        """Whether another item has the same rank and the same name."""
        return self.rank == other.rank and self.name == other.name
