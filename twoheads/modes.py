"""Which modes of a fit walk differ in what is put from them on."""

from twoheads.books import Book, small_reach
from twoheads.halves import EITHER
from twoheads.outcomes import Outcomes
from twoheads.pairings import Pairing


def classes(walk):
    """The modes in which a walk is between values of both rows, in classes of those that put the same."""
    book = Book(walk)
    outcomes = Outcomes(book.halves, small_reach(book))
    numbers = class_numbers(outcomes, book.entries())
    found = {}
    for mode, left, right in book.entries():
        if left and right:
            found.setdefault(numbers[mode, left, right], []).append(mode)
    return sorted(list(found.values()))


def class_numbers(outcomes, entries):
    """A dict from the entries, and those of an ended run, to the numbers of their classes.

    At first all are in one class; a class is split as long as blocks tell its entries apart by
    how many items are put or by the class behind them.
    """
    ended = [(None, left, right) for left in EITHER for right in EITHER]
    numbers = {entry: 0 for entry in [*entries, *ended]}
    many = 0
    while len(set(list(numbers.values()))) > many:
        many = len(set(list(numbers.values())))
        keys = {entry: class_key(outcomes, numbers, entry) for entry in numbers}
        known = {}
        for entry in keys:
            known.setdefault(keys[entry], len(known))
        numbers = {entry: known[keys[entry]] for entry in keys}
    return numbers


def class_key(outcomes, numbers, entry):
    """What tells apart the entries of one class: what is put in all blocks, and the classes behind them."""
    mode, left, right = entry
    many, modes = outcomes.of_entry(mode, left, right)
    blocks = outcomes.ordered_blocks(left, right)
    behind = [numbers[modes[k], block[2], block[3]] for k, block in enumerate(blocks)]
    return (numbers[entry], left, right, tuple(many), tuple(behind))


def parting(walk, one, other):
    """A shortest pair of rows for which a walk puts unlike ranks from two modes on, or None."""
    book = Book(walk)
    outcomes = Outcomes(book.halves, small_reach(book))
    pairing = Pairing(outcomes, outcomes, [(one, other, True, True)])
    if pairing.parted is None:
        return None
    return pairing.rows()
