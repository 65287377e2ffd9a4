"""Plays: runs that can be watched, and taken back."""

from twoheads.errors import Behind, Endless, NotNow, Unlike
from twoheads.runs import Run, told_event
from twoheads.stands import stand_of
from twoheads.trials import Trial

FALLS = ("behind", "unlike", "endless")


class Moment:
    """What a play tells of a moment; `event` led to it, and is None at first."""

    def __init__(self, run, event):
        self.event = event
        self.line = run.line
        self.sight = run.view()
        self.passed = (run.cursor["left"], run.cursor["right"])
        self.many_put = len(run.output)
        self.compared = run.compared

    def is_fallen(self):
        """Whether the run has fallen."""
        return self.event is not None and self.event[0] in FALLS


class Play:
    """A run that can be watched.

    A run goes the same way whenever it is done. So all that was ever done stays known, and
    `state`, the number of the events that count now, is all that is taken back.
    """

    def __init__(self, walk, left, right):
        self.walk = walk
        self.furthest = Run(walk, left.listed(), right.listed())
        self.moments = [Moment(self.furthest, None)]
        self.state = 0

    def now(self):
        """The present moment."""
        return self.moments[self.state]

    def do(self):
        """Does the next statement and returns its event, or the fall."""
        if self.over:
            raise NotNow("end")
        if self.state + 1 == len(self.moments):
            event = told_event(self.furthest)
            self.moments.append(Moment(self.furthest, event))
        self.state = self.state + 1
        return self.now().event

    def run(self, most=1000):
        """Does at most so many statements, and returns the list of their events."""
        found = []
        while len(found) < most and not self.over:
            found.append(self.do())
        return found

    def events(self):
        """Yields the events as they are done, to the end."""
        while not self.over:
            yield self.do()

    def undo(self, count=1):
        """Takes back the last events, so many of them."""
        if not 0 <= count <= self.state:
            raise NotNow("undo")
        self.state = self.state - count

    @property
    def put(self):
        """The list of the items put so far."""
        return self.furthest.output[:self.now().many_put]

    @property
    def cursors(self):
        """The pair of the cursors."""
        return self.now().passed

    @property
    def compares(self):
        """The number of comparisons so far."""
        return self.now().compared

    @property
    def flags(self):
        """The ascending tuple of the flags that are set."""
        return self.now().sight.raised

    @property
    def over(self):
        """Whether the run has ended or fallen."""
        return self.now().is_fallen() or self.now().line == len(self.walk)

    @property
    def fall(self):
        """None, or an error that tells how the run has fallen."""
        if not self.now().is_fallen():
            return None
        event = self.now().event
        if event[0] == "behind":
            return Behind(event[1], event[2])
        if event[0] == "unlike":
            return Unlike(event[1])
        return Endless(event[1])

    @property
    def stand(self):
        """The present stand, or None behind a fall."""
        if self.now().is_fallen():
            return None
        return stand_of(self.now().line, self.now().sight)

    def trial(self):
        """A block behind which the play is as before, if an error ends it."""
        return Trial(self)

    def attempt(self, deed):
        """What the function returns for the play, called within a trial."""
        with self.trial() as held:
            return deed(held)
