"""Searches for all rows (stand, mark) that come about, by the shortest ways."""

from twoheads.spreads import spread_on
from twoheads.stands import first_stands, heads_in, last_in
from twoheads.ways import Ways

QUIET = ("test", "put", "set", "clear", "break", "stop")


class Search:
    """The rows (stand, mark) that come about, and the shortest ways to what breaks a claim.

    The length of a way is the number of items that have come into sight on it: two rows of
    just these items are the shortest on which a run goes this way. `wrong` has triples
    (length, row, event) for all events that break the claim, without an event for ends that do.
    """

    def __init__(self, walk, graph, claim):
        self.ways = Ways()
        self.wrong = []
        for stand in first_stands(walk):
            self.ways.offer(heads_in(stand), (stand, 0), None, None)
        row = self.ways.take()
        while row is not None:
            self.look(row, graph, claim)
            row = self.ways.take()

    def look(self, row, graph, claim):
        """Offers all rows behind a row, and keeps what breaks the claim."""
        stand, mark = row
        length = self.ways.length(row)
        if not graph[stand] and not claim.ends(stand):
            self.wrong.append((length, row, None))
        for event, behind in graph[stand]:
            mark_behind = claim.mark(stand, mark, event)
            if mark_behind is None:
                self.wrong.append((length + doubles_in(event), row, event))
            else:
                for after in behind:
                    self.ways.offer(length + sighted(event, after), (after, mark_behind), row, event)

    def rows(self):
        """The list of the rows that come about."""
        return list(self.ways.taken)

    def rows_on(self, row, event):
        """A pair of shortest rows on which a run comes to a row, and to the event there."""
        first, way = self.ways.way_to(row)
        spread = spread_on(first[0], [(moved, after) for moved, (after, _) in way])
        if event is not None and event[0] == "pairs":
            spread.double(event)
        return spread.ranked()


def stand_ways(graph, first):
    """The shortest ways from some first stands to all others, by the items that come into sight."""
    ways = Ways()
    for stand in first:
        ways.offer(heads_in(stand), stand, None, None)
    stand = ways.take()
    while stand is not None:
        length = ways.length(stand)
        for event, behind in graph[stand]:
            for after in behind:
                ways.offer(length + sighted(event, after), after, stand, event)
        stand = ways.take()
    return ways


def doubles_in(event):
    """How many items come into sight and go at once by an event."""
    if event[0] == "pairs":
        return event[3] + event[4] - 2
    return 0


def sighted(event, after):
    """How many items come into sight between a stand and the one behind an event."""
    if event[0] == "step":
        return 0 if last_in(after, event[2]) == "-" else 1
    if event[0] == "pairs":
        return doubles_in(event) + heads_in(after)
    return 0


def quiet_marks(graph):
    """A dict from each stand to its least mark for `ending`; None if its run never ends."""
    marks = {}
    for stand in graph:
        chain, behind = quiet_chain(graph, marks, stand)
        # A stand that is on the chain itself has no mark yet: it closes a ring.
        mark = -1 if behind is None else marks.get(behind)
        for told in reversed(list(chain)):
            mark = None if mark is None else mark + 1
            marks[told] = mark
    return marks


def quiet_chain(graph, marks, stand):
    """The list of the stands from one on to which quiet events lead, and the stand behind them.

    The chain stops ahead of a stand that has a mark or is on it already; the stand behind it
    is None if the last event is not quiet.
    """
    chain = []
    on_chain = {}
    while stand is not None and stand not in marks and stand not in on_chain:
        chain.append(stand)
        on_chain[stand] = True
        stand = quiet_behind(graph[stand])
    return chain, stand


def quiet_behind(told):
    """The stand behind the moves of a stand, if they are quiet; else None."""
    if told and told[0][0][0] in QUIET:
        return told[0][1][0]
    return None
