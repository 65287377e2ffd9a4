"""Checks: whether a walk keeps a claim on all rows, and what shows it."""

from twoheads.bags import as_items
from twoheads.claims import as_claim
from twoheads.errors import Behind, Unlike
from twoheads.items import is_number, is_rank
from twoheads.runs import Run
from twoheads.searches import QUIET, Search, quiet_marks
from twoheads.stands import first_stands, graph_of, is_stand, moves_at, stand_of
from twoheads.verdicts import Breaks, Holds


def check(walk, claim):
    """Holds with the table of what comes about, or Breaks with a shortest pair of rows."""
    asked = as_claim(claim)
    graph = graph_of(walk)
    search = Search(walk, graph, asked)
    if asked.kind == "ending":
        marks = quiet_marks(graph)
        table = list(marks.items())
        wrong = [(search.ways.length((stand, 0)), (stand, 0), None) for stand in marks if marks[stand] is None]
    else:
        table = search.rows()
        wrong = search.wrong
    if not wrong:
        return Holds(tuple(sorted(table)))
    shortest = min([length for length, _, _ in wrong])
    found = [(row, event) for length, row, event in wrong if length == shortest]
    row, event = found[0]
    left, right = search.rows_on(row, event)
    return Breaks(left, right)


def holds(walk, claim, table):
    """Whether a table shows that the claim is kept."""
    asked = as_claim(claim)
    if not isinstance(table, (list, tuple)):
        return False
    if not all([is_table_row(walk, asked, row) for row in table]):
        return False
    if asked.kind == "ending":
        return is_closed_ending(walk, table)
    return is_closed(walk, asked, table)


def is_table_row(walk, claim, value):
    """Whether any value is a pair of a stand of the walk and a mark that the claim can have."""
    if not isinstance(value, tuple) or len(value) != 2:
        return False
    stand, mark = value
    if not is_stand(walk, stand) or not is_number(mark) or mark < 0:
        return False
    if claim.kind == "ending":
        return True
    return mark <= (1 if claim.kind in ("stable", "keeps") else 0)


def is_closed(walk, claim, table):
    """Whether a table has all first stands, what is behind its rows, and nothing that breaks."""
    rows = {row: True for row in table}
    if not all([(stand, 0) in rows for stand in first_stands(walk)]):
        return False
    return all([is_closed_row(walk, claim, rows, stand, mark) for stand, mark in rows])


def is_closed_row(walk, claim, rows, stand, mark):
    """Whether nothing at a row breaks the claim, and all rows behind it are in the table."""
    if stand[0] == len(walk):
        return claim.ends(stand)
    for event, behind in moves_at(walk, stand):
        mark_behind = claim.mark(stand, mark, event)
        if mark_behind is None:
            return False
        if not all([(after, mark_behind) in rows for after in behind]):
            return False
    return True


def is_closed_ending(walk, table):
    """Whether a table gives each stand one mark, and less marks to those behind quiet events."""
    marks = {}
    for stand, mark in table:
        if marks.setdefault(stand, mark) != mark:
            return False
    if not all([stand in marks for stand in first_stands(walk)]):
        return False
    return all([is_falling_mark(walk, marks, stand) for stand in marks])


def is_falling_mark(walk, marks, stand):
    """Whether all stands behind a stand have marks, less ones if its event is quiet."""
    for event, behind in moves_at(walk, stand):
        for after in behind:
            if after not in marks:
                return False
            if event[0] in QUIET and marks[after] >= marks[stand]:
                return False
    return True


def breaks(walk, claim, left, right):
    """Whether the run on two rows of ranks breaks the claim."""
    asked = as_claim(claim)
    if not is_ranks(left) or not is_ranks(right):
        return False
    return is_broken_by(Run(walk, as_items(left), as_items(right)), asked)


def is_ranks(value):
    """Whether any value is a list or tuple of ranks, none of them less than the one before it."""
    if not isinstance(value, (list, tuple)) or not all([is_rank(rank) for rank in value]):
        return False
    return all([value[k - 1] <= value[k] for k in range(1, len(value))])


def is_broken_by(run, claim):
    """Whether a run breaks the claim; one that never ends goes on until nothing new comes."""
    mark = 0
    met = {}
    while run.line < len(run.walk):
        view = run.view()
        moment = (run.line, run.raised, view.last, run.cursor["left"], run.cursor["right"], mark)
        if moment in met:
            return claim.kind == "ending"
        met[moment] = True
        stand = stand_of(run.line, view)
        try:
            event = run.do_seen(view)
        except (Behind, Unlike):
            return claim.kind == "inside"
        mark = claim.mark(stand, mark, event_of_moves(event))
        if mark is None:
            return True
    return not claim.ends(stand_of(run.line, run.view()))


def event_of_moves(event):
    """An event of a run as moves tell it: without the indexes of its items."""
    if event[0] in ("put", "step"):
        return event[:3]
    if event[0] == "pairs":
        return event[:3] + event[5:]
    return event
