"""Walks: small programs that run on two rows."""

from twoheads.errors import BadName, BadPlace, BadWalk
from twoheads.layouts import jumps_of, row_text, spots_of, text_rows
from twoheads.parts import flags_of
from twoheads.readers import read_parts
from twoheads.runs import Run
from twoheads.samples import sample_text


class Walk:
    """A walk; `parts` has its outermost statements, `spots` and `jumps` its lines."""

    MOST = 24
    DEEPEST = 6

    def __init__(self, *parts):
        if not parts:
            raise BadWalk("none", 0)
        self.parts = parts
        self.spots = spots_of(parts, self.MOST, self.DEEPEST)
        self.jumps = jumps_of(parts, len(self.spots))
        self.named = tuple(sorted({flag for spot in self.spots for flag in flags_of(spot[0])}))

    @classmethod
    def read(cls, text):
        """The walk with this text."""
        parts = read_parts(text)
        return cls(*parts)

    @staticmethod
    def sample(name):
        """The usual walk that has the name."""
        text = sample_text(name)
        if text is None:
            raise BadName(name)
        return Walk.read(text)

    def __str__(self):
        return "\n".join(text_rows(self.spots))

    def __len__(self):
        return len(self.spots)

    def __getitem__(self, at):
        if not 0 <= at < len(self.spots):
            raise BadPlace(at)
        return self.spots[at][0]

    def __iter__(self):
        raise TypeError("a walk is not iterated over: lines() tells its lines")

    def lines(self):
        """Yields triples (line, depth, first row of its text), in order."""
        for line, (part, depth, lead) in enumerate(self.spots):
            yield line, depth, row_text(part, lead)

    @property
    def flags(self):
        """The ascending tuple of the flags that the walk names."""
        return self.named

    def __eq__(self, other):
        return isinstance(other, Walk) and self.parts == other.parts

    def __neg__(self):
        parts = [part.turned() for part in self.parts]
        return Walk(*parts)

    def __add__(self, other):
        if not isinstance(other, Walk):
            return NotImplemented
        parts = self.parts + other.parts
        return Walk(*parts)

    def __call__(self, left, right):
        return Run(self, left.listed(), right.listed()).to_end()
