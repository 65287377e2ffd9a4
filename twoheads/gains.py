"""What a bound counts on a run, less the weights of the items that come into sight."""

from twoheads.errors import Behind
from twoheads.parts import Branch
from twoheads.stands import last_in, view_of
from twoheads.words import NEWS, ORDERS

COUNTS = ("compares", "puts")


class Scale:
    """Counts comparisons or items that are put, and weighs left items with a, right ones with b."""

    def __init__(self, walk, count, a, b):
        self.walk = walk
        self.counting = count
        self.weights = {"left": a, "right": b}

    def counted(self, stand):
        """The count of what is done at a stand, up to the fall there if it falls."""
        line = stand[0]
        if line == len(self.walk):
            return 0
        part = self.walk[line]
        if self.counting == "puts":
            return 1 if part.word == "put" and last_in(stand, part.side) != "-" else 0
        if not isinstance(part, Branch):
            return 0
        return comparisons(part.test, view_of(stand), line)

    def heads_weight(self, stand):
        """The weight of the heads of a stand."""
        return self.head_weight(stand, "left") + self.head_weight(stand, "right")

    def head_weight(self, stand, side):
        """The weight of the head of a side, 0 if the row is ended."""
        return 0 if last_in(stand, side) == "-" else self.weights[side]

    def sighted_weight(self, event, after):
        """The weight of what comes into sight between a stand and the one behind an event."""
        if event[0] == "step":
            return self.head_weight(after, event[2])
        if event[0] == "pairs":
            doubles = (event[3] - 1) * self.weights["left"] + (event[4] - 1) * self.weights["right"]
            return doubles + self.heads_weight(after)
        return 0

    def gained(self, stand, event, after):
        """What is counted at a stand, less the weight of what comes into sight behind an event."""
        return self.counted(stand) - self.sighted_weight(event, after)

    def gain_on(self, stand, way):
        """The gains from a stand on, together; a way is a list of pairs (event, stand behind it)."""
        total = 0
        for event, after in way:
            total = total + self.gained(stand, event, after)
            stand = after
        return total


def comparisons(test, view, line):
    """How many comparisons a test asks where a walk sees this, up to its fall if it falls."""
    asked = []

    def look(word):
        truth = view.answer(line, word)
        if word in ORDERS or word in NEWS:
            asked.append(word)
        return truth

    try:
        test(look)
    except Behind:
        # The word that falls is no comparison.
        pass
    return len(asked)
