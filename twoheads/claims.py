"""Claims: what a walk may keep on all pairs of rows."""

from twoheads.errors import BadName
from twoheads.stands import last_in
from twoheads.words import SIDES, exchanged

FALLS = ("behind", "unlike")


class Claim:
    """One of the twelve claims; `side` is empty for those without a side."""

    WORDS = (
        "inside", "ending", "ordered", "single", "stable", "level", "keeps left", "keeps right",
        "uses left", "uses right", "spares left", "spares right",
    )

    def __init__(self, word):
        if not isinstance(word, str) or word not in self.WORDS:
            raise BadName(word)
        kind, _, side = word.partition(" ")
        self.word = word
        self.kind = kind
        self.side = side

    def __str__(self):
        return str(self.word)

    def __eq__(self, other):
        return isinstance(other, Claim) and self.word == other.word

    def turned(self):
        """The claim with the other side, if it has a side; else itself."""
        if self.side not in SIDES:
            return self
        return Claim(f"{self.kind} {exchanged(self.side)}")

    def mark(self, stand, mark, event):
        """The mark behind an event, or None if the event breaks the claim."""
        if event[0] in FALLS:
            return None if self.kind == "inside" else 0
        told = MARKS[self.kind]
        return told(self.side, stand, mark, event)

    def ends(self, stand):
        """Whether the claim allows that a run ends with this stand."""
        if self.kind in ("keeps", "uses"):
            return last_in(stand, self.side) == "-"
        return True


def as_claim(value):
    """The claim for a claim or its word; raises BadName for any other value."""
    if isinstance(value, Claim):
        return value
    return Claim(value)


def is_putting(event):
    """Whether items are put."""
    return event[0] == "put" or event[0] == "pairs"


def no_mark(side, stand, mark, event):
    """For claims that no event breaks, but a fall."""
    return 0


def ordered_mark(side, stand, mark, event):
    """No item is put directly behind a greater one."""
    if is_putting(event) and last_in(stand, event[2]) == "above":
        return None
    return 0


def single_mark(side, stand, mark, event):
    """No item is put directly behind an equal one."""
    if is_putting(event) and last_in(stand, event[2]) == "equal":
        return None
    if event[0] == "pairs" and event[3:] != (1, 1):
        return None
    return 0


def stable_mark(side, stand, mark, event):
    """No left item is put directly behind an equal right one; 1 if the last is a right one."""
    if not is_putting(event):
        return mark
    if event[2] == "right":
        return 1
    if mark == 1 and last_in(stand, "left") == "equal":
        return None
    return 0


def level_mark(side, stand, mark, event):
    """No head is put or stepped that is greater than the other one."""
    if event[0] == "put" or event[0] == "step":
        greater = "more" if event[2] == "left" else "less"
        if stand[2] == greater:
            return None
    return 0


def keeps_mark(side, stand, mark, event):
    """Each item of the side is put just once ahead of being passed; 1 if the head was put."""
    if event[0] == "pairs":
        return keeps_pairs_mark(side, mark, event)
    if event[0] == "put" and event[2] == side:
        return None if mark == 1 else 1
    if event[0] == "step" and event[2] == side:
        return None if mark == 0 else 0
    return mark


def keeps_pairs_mark(side, mark, event):
    """The mark behind pairs, which pass `own` items of the side and `others` of the other one."""
    putting, m, n = event[2:]
    own, others = (m, n) if side == "left" else (n, m)
    if putting == side:
        return 0 if others == 1 and mark == 0 else None
    return 0 if own == 1 and mark == 1 else None


def spares_mark(side, stand, mark, event):
    """No item of the side is put."""
    if is_putting(event) and event[2] == side:
        return None
    return 0


MARKS = {
    "inside": no_mark, "ending": no_mark, "ordered": ordered_mark, "single": single_mark,
    "stable": stable_mark, "level": level_mark, "keeps": keeps_mark, "uses": no_mark,
    "spares": spares_mark,
}
