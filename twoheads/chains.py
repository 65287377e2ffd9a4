"""Chains: walks one behind another, each on what the one before it has put."""

from twoheads.errors import NotNow, TooMany, Unfit
from twoheads.fits import is_kept
from twoheads.rows import Row
from twoheads.runs import Run
from twoheads.stands import graph_of
from twoheads.tallies import tally_of

HANDED_ON = ("inside", "ending", "ordered")


class Chain:
    """Walks one behind another; what all but the last one put is handed on as a left row."""

    def __init__(self, first, *walks):
        self.walks = (first, *walks)
        for walk in self.walks[:-1]:
            need_handing_on(walk)

    def __len__(self):
        return len(self.walks)

    def __call__(self, rows):
        return lists_put(self.walks, rows)[-1]

    def longer(self, walk):
        """The chain with one walk more."""
        walks = [*self.walks, walk]
        return Chain(*walks)

    def steps(self, rows):
        """Yields the lists that are put by the walks, one after another."""
        for found in lists_put(self.walks, rows):
            yield found

    def tally(self, numbers):
        """How often a value is put that the rows have so and so often."""
        need_rows(self.walks, numbers)
        tallies = [needed_tally(walk) for walk in self.walks]
        many = numbers[0]
        for k, tally in enumerate(tallies):
            many = tally(many, numbers[k + 1])
        return many


def need_handing_on(walk):
    """Raises Unfit for a walk whose items cannot be handed on as a row."""
    graph = graph_of(walk)
    for word in HANDED_ON:
        if not is_kept(graph, word):
            raise Unfit(word)


def need_rows(walks, rows):
    """Raises NotNow if there are not as many rows as a chain of these walks is called with."""
    if len(rows) != len(walks) + 1:
        raise NotNow(len(rows))


def needed_tally(walk):
    """The tally of a walk; raises Unfit if it has none."""
    tally = tally_of(walk)
    if tally is None:
        raise Unfit("tally")
    return tally


def lists_put(walks, rows):
    """The list of the lists that walks put, one behind another."""
    need_rows(walks, rows)
    found = []
    items = rows[0].listed()
    for k, walk in enumerate(walks):
        if len(items) > Row.MOST:
            raise TooMany(Row.MOST)
        items = Run(walk, items, rows[k + 1].listed()).to_end()
        found.append(items)
    return found
