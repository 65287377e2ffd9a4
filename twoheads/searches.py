"""Searches for all rows (stand, mark) that come about, by the shortest ways."""

from heapq import heappop, heappush

from twoheads.spreads import Spread
from twoheads.stands import first_stands, heads_in, last_in

QUIET = ("test", "put", "set", "clear", "break", "stop")


class Search:
    """The rows (stand, mark) that come about, and the shortest ways to what breaks a claim.

    The length of a way is the number of items that have come into sight on it: two rows of
    just these items are the shortest on which a run goes this way. `taken` has, for each row,
    this length, the row before it and the event between them; `wrong` has triples (length,
    row, event) for all events that break the claim, without an event for ends that do.
    """

    def __init__(self, walk, graph, claim):
        self.waiting = []
        self.offers = []
        self.taken = {}
        self.wrong = []
        for stand in first_stands(walk):
            self.offer(heads_in(stand), (stand, 0), None, None)
        row = self.take()
        while row is not None:
            self.look(row, graph, claim)
            row = self.take()

    def offer(self, length, row, before, event):
        """Keeps a way to a row until all shorter ways are done."""
        heappush(self.waiting, (length, len(self.offers)))
        self.offers.append((row, before, event))

    def take(self):
        """The next row by length, or None; it is taken just once."""
        while self.waiting:
            length, number = heappop(self.waiting)
            row, before, event = self.offers[number]
            if row not in self.taken:
                self.taken[row] = (length, before, event)
                return row
        return None

    def look(self, row, graph, claim):
        """Offers all rows behind a row, and keeps what breaks the claim."""
        stand, mark = row
        length = self.taken[row][0]
        if not graph[stand] and not claim.ends(stand):
            self.wrong.append((length, row, None))
        for event, behind in graph[stand]:
            mark_behind = claim.mark(stand, mark, event)
            if mark_behind is None:
                self.wrong.append((length + doubles_in(event), row, event))
            else:
                for after in behind:
                    self.offer(length + sighted(event, after), (after, mark_behind), row, event)

    def rows_on(self, row, event):
        """A pair of shortest rows on which a run comes to a row, and to the event there."""
        way = []
        _, before, led = self.taken[row]
        while before is not None:
            way.append((led, row[0]))
            row = before
            _, before, led = self.taken[row]
        spread = Spread(row[0])
        for moved, after in reversed(list(way)):
            spread.go(moved, after)
        if event is not None and event[0] == "pairs":
            spread.double(event)
        return spread.ranked()


def doubles_in(event):
    """How many items come into sight and go at once by an event."""
    if event[0] == "pairs":
        return event[3] + event[4] - 2
    return 0


def sighted(event, after):
    """How many items come into sight between a stand and the one behind an event."""
    if event[0] == "step":
        return 0 if last_in(after, event[2]) == "-" else 1
    if event[0] == "pairs":
        return doubles_in(event) + heads_in(after)
    return 0


def quiet_marks(graph):
    """A dict from each stand to its least mark for `ending`; None if its run never ends."""
    marks = {}
    for stand in graph:
        chain, behind = quiet_chain(graph, marks, stand)
        # A stand that is on the chain itself has no mark yet: it closes a ring.
        mark = -1 if behind is None else marks.get(behind)
        for told in reversed(list(chain)):
            mark = None if mark is None else mark + 1
            marks[told] = mark
    return marks


def quiet_chain(graph, marks, stand):
    """The list of the stands from one on to which quiet events lead, and the stand behind them.

    The chain stops ahead of a stand that has a mark or is on it already; the stand behind it
    is None if the last event is not quiet.
    """
    chain = []
    on_chain = {}
    while stand is not None and stand not in marks and stand not in on_chain:
        chain.append(stand)
        on_chain[stand] = True
        stand = quiet_behind(graph[stand])
    return chain, stand


def quiet_behind(told):
    """The stand behind the moves of a stand, if they are quiet; else None."""
    if told and told[0][0][0] in QUIET:
        return told[0][1][0]
    return None
