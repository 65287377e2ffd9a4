"""What rows are made of: items in order, and what the signs take of two rows."""

from twoheads.errors import BadItem, Disordered, TooMany
from twoheads.items import Item, is_rank


def as_items(values):
    """The list of the items for values in which an integer stands for an item."""
    found = []
    for k, value in enumerate(values):
        if isinstance(value, Item):
            found.append(value)
        elif is_rank(value):
            found.append(Item(value))
        else:
            raise BadItem(k)
    return found


def need_row(items, most):
    """Raises an error if the items are out of order or too many for a row."""
    for k in range(1, len(items)):
        if items[k].before(items[k - 1]):
            raise Disordered(k)
    if len(items) > most:
        raise TooMany(most)


def by_rank(items):
    """A dict from each rank to the list of the items that have it, in their order."""
    found = {}
    for item in items:
        found.setdefault(item.rank, []).append(item)
    return found


def taken(sign, left, right):
    """The list of the items that a sign takes of two ascending tuples."""
    of_left = by_rank(left)
    of_right = by_rank(right)
    found = []
    for rank in sorted({item.rank for item in left + right}):
        found.extend(taken_of_rank(sign, of_left.get(rank, []), of_right.get(rank, [])))
    return found


def taken_of_rank(sign, left, right):
    """The list of the items that a sign takes of the doubles of one rank."""
    left_over = left[len(right):]
    right_over = right[len(left):]
    if sign == "+":
        return left + right
    if sign == "|":
        return left + right_over
    if sign == "&":
        return left[:len(right)]
    if sign == "-":
        return left_over
    return left_over + right_over
