"""Desks: walks that are edited, asked, and taken back."""

from twoheads.answers import answer
from twoheads.changes import changed
from twoheads.edits import edited
from twoheads.errors import BadPlace, NotNow
from twoheads.items import is_number
from twoheads.readers import read_parts
from twoheads.sayings import read_line
from twoheads.trials import Trial
from twoheads.walks import Walk

FIRST_LIMIT = 20
GREATEST_LIMIT = 50


class Desk:
    """A walk that is edited.

    `state` is a triple: the present walk, the tuple of the walks before it, as far as they are
    kept, and how many are kept.
    """

    def __init__(self, walk):
        self.state = (walk, (), FIRST_LIMIT)

    @property
    def present(self):
        """The walk as it is now."""
        return self.state[0]

    @property
    def limit(self):
        """How many steps back are kept."""
        return self.state[2]

    @limit.setter
    def limit(self, value):
        self.set_limit(value)

    def set_limit(self, value):
        """Sets how many steps back are kept; the oldest ones are forgotten."""
        if not is_number(value) or not 0 <= value <= GREATEST_LIMIT:
            raise BadPlace(value)
        walk, earlier, _ = self.state
        self.state = (walk, newest(earlier, value), value)

    def change(self, walk):
        """Makes a walk the present one; the one before it can be brought back."""
        before, earlier, limit = self.state
        self.state = (walk, newest((*earlier, before), limit), limit)

    def __getitem__(self, at):
        return self.present[at]

    def __setitem__(self, at, worth):
        walk = self.present
        if not 0 <= at < len(walk):
            raise BadPlace(at)
        self.change(changed(walk, at, read_parts(worth)))

    def __iter__(self):
        raise TypeError("a desk is not iterated over: `present` is its walk")

    def __iadd__(self, other):
        parts = [*self.present.parts, *read_parts(other)]
        self.change(Walk(*parts))
        return self

    def edit(self, edit):
        """Does an edit of the present walk."""
        self.change(edited(self.present, edit))

    def back(self, count=1):
        """Takes back the last changes, so many of them."""
        walk, earlier, limit = self.state
        if not 0 <= count <= len(earlier):
            raise NotNow("back")
        kept = len(earlier) - count
        if count > 0:
            walk = earlier[kept]
        self.state = (walk, earlier[:kept], limit)

    def ask(self, line):
        """Does what a line says, and returns what is to be told."""
        saying = read_line(line)
        if saying == ("back",):
            self.back()
            return "back"
        return answer(self.present, saying)

    def run(self, *lines):
        """The list of the answers to some lines; the desk stays as it was if one raises an error."""
        with self.trial() as held:
            return [held.ask(line) for line in lines]

    def trial(self):
        """A block behind which the desk is as before, if an error ends it."""
        return Trial(self)

    def attempt(self, deed):
        """What the function returns for the desk, called within a trial."""
        with self.trial() as held:
            return deed(held)


def newest(walks, many):
    """The last walks of a tuple, at most so many."""
    return walks[max(0, len(walks) - many):]
