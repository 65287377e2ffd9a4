"""Whether two fit walks put the same ranks for all rows, and what shows it."""

from twoheads.bags import as_items
from twoheads.books import Book, joint_reach
from twoheads.checks import is_ranks
from twoheads.errors import Behind, Endless, Unlike
from twoheads.halves import FIRST_ENTRIES, Halves
from twoheads.items import is_number
from twoheads.outcomes import Outcomes
from twoheads.pairings import Pairing
from twoheads.runs import Run
from twoheads.verdicts import Alike, Parted


def alike(one, other):
    """Alike with the table of what comes about, or Parted with a shortest pair of rows."""
    return compared(Book(one), Book(other))


def compared(one, other):
    """The verdict on two walks, told by their books."""
    reach = joint_reach(one, other)
    pairing = Pairing(Outcomes(one.halves, reach), Outcomes(other.halves, reach), first_paired())
    if pairing.parted is None:
        return Alike(tuple(sorted(pairing.entries(), key=paired_key)))
    left, right = pairing.rows()
    return Parted(left, right)


def first_paired():
    """The list of the first paired entries."""
    return [(mode, mode, left, right) for mode, left, right in FIRST_ENTRIES]


def paired_key(entry):
    """A key that sorts paired entries, with None ahead of all modes."""
    one, other, left, right = entry
    return (() if one is None else one, () if other is None else other, left, right)


def shows_alike(one, other, table):
    """Whether a table shows that two fit walks are alike."""
    reach = joint_reach(Book(one), Book(other))
    if not isinstance(table, (list, tuple)):
        return False
    if not all([is_paired(one, other, value) for value in table]):
        return False
    entries = {entry: True for entry in table}
    if not all([entry in entries for entry in first_paired()]):
        return False
    of_one = Outcomes(Halves(one, entries_of(table, 0)), reach)
    of_other = Outcomes(Halves(other, entries_of(table, 1)), reach)
    return all([is_closed_paired(of_one, of_other, entries, entry) for entry in entries])


def is_paired(one, other, value):
    """Whether any value has the form of a paired entry of two walks that has to be looked at."""
    if not isinstance(value, tuple) or len(value) != 4:
        return False
    mode, other_mode, left, right = value
    if not isinstance(left, bool) or not isinstance(right, bool) or not (left or right):
        return False
    if mode is None and other_mode is None:
        return False
    return (mode is None or is_mode(one, mode)) and (other_mode is None or is_mode(other, other_mode))


def is_mode(walk, value):
    """Whether any value is a pair of a line of a walk and an ascending tuple of its flags."""
    if not isinstance(value, tuple) or len(value) != 2:
        return False
    line, flags = value
    if not is_number(line) or not 0 <= line < len(walk) or not isinstance(flags, tuple):
        return False
    return list(flags) == [flag for flag in walk.flags if flag in flags]


def entries_of(table, which):
    """The list of the entries that one of the walks has in a table."""
    return [(entry[which], entry[2], entry[3]) for entry in table if entry[which] is not None]


def is_closed_paired(of_one, of_other, entries, entry):
    """Whether both walks put as much from a paired entry on, and all that is behind is there."""
    one, other, left, right = entry
    told = of_one.of_entry(one, left, right)
    other_told = of_other.of_entry(other, left, right)
    if told is None or other_told is None or told[0] != other_told[0]:
        return False
    for block, mode, other_mode in zip(of_one.ordered_blocks(left, right), told[1], other_told[1]):
        is_over = mode is None and other_mode is None
        if not is_over and (mode, other_mode, block[2], block[3]) not in entries:
            return False
    return True


def shows_parted(one, other, left, right):
    """Whether two walks put unlike ranks on two rows of ranks."""
    if not is_ranks(left) or not is_ranks(right):
        return False
    ranks = ranks_put(one, left, right)
    other_ranks = ranks_put(other, left, right)
    return ranks is not None and other_ranks is not None and ranks != other_ranks


def ranks_put(walk, left, right):
    """The list of the ranks that a walk puts on two rows of ranks, or None if it falls."""
    try:
        items = Run(walk, as_items(left), as_items(right)).to_end()
    except (Behind, Unlike, Endless):
        return None
    return [item.rank for item in items]
