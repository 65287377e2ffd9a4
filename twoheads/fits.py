"""Fit walks: those that take the values one after another, and steadily."""

from twoheads.claims import Claim
from twoheads.errors import Unfit
from twoheads.halves import FIRST_ENTRIES, Halves, measured
from twoheads.searches import quiet_marks
from twoheads.stands import graph_of


def need_fit(walk):
    """Raises Unfit for a walk that is not fit."""
    fit_halves(walk)


def skew(walk):
    """None for a steady walk, else a mode and the numbers of a ring that steps unequally often."""
    return first_skew(level_halves(walk))


def fit_halves(walk):
    """The halves of a fit walk; raises Unfit for any other one."""
    halves = level_halves(walk)
    if first_skew(halves) is not None:
        raise Unfit("steady")
    return halves


def level_halves(walk):
    """The halves of a walk that takes the values one after another; raises Unfit for any other."""
    graph = graph_of(walk)
    for word in ("inside", "ending", "level"):
        if not is_kept(graph, word):
            raise Unfit(word)
    return Halves(walk, FIRST_ENTRIES)


def is_kept(graph, word):
    """Whether a claim is kept whose marks are always 0 and that no end breaks."""
    if word == "ending":
        return None not in list(quiet_marks(graph).values())
    claim = Claim(word)
    for stand in graph:
        for event, _ in graph[stand]:
            if claim.mark(stand, 0, event) is None:
                return False
    return True


def first_skew(halves):
    """The mode and the numbers of a ring of a both half that steps unequally often, or None."""
    for at in halves.begun:
        if at[0] == "both":
            _, (m, n) = measured(halves.deeds, at)
            if m != n and m > 0 and n > 0:
                return (at[2], at[3]), m, n
    return None
