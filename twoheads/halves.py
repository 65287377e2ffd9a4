"""Halves of blocks: what a walk does while items of one value are at the heads.

A situation is a tuple (half, more, line, flags, is_put): the half is "both", "left" or "right",
`more` tells whether the other row has greater items (False in the both half, where it cannot
be asked), and `is_put` whether an item of the value was put.
"""

from twoheads.stands import moves_at
from twoheads.words import SIDES

# The heads and the last words of a stand that shows a situation, by half, more and is_put.
FORMS = {
    ("both", False, False): ("equal", "below", "below"),
    ("both", False, True): ("equal", "equal", "equal"),
    ("left", False, False): ("left", "below", "-"),
    ("left", False, True): ("left", "equal", "-"),
    ("left", True, False): ("less", "below", "below"),
    ("left", True, True): ("less", "equal", "below"),
    ("right", False, False): ("right", "-", "below"),
    ("right", False, True): ("right", "-", "equal"),
    ("right", True, False): ("more", "below", "below"),
    ("right", True, True): ("more", "below", "equal"),
}
EITHER = (False, True)
FIRST_ENTRIES = (((0, ()), True, True), ((0, ()), True, False), ((0, ()), False, True))


class Halves:
    """The halves that come about in all blocks of some entries, and of those behind them.

    `deeds` has, for each situation that comes about, a pair of what is done there and the
    situation behind it: the side for a step, else "put" or "pairs", and "" for what is quiet.
    Situations at the end of the walk are missing. A walk that keeps `inside` and `level` does
    nothing else from the first entries on; from others it may fall, or put or step an item of
    another value: that is "wrong", and None is behind it.
    `begun` has the situations with which halves begin, `reached` the entries.
    """

    def __init__(self, walk, entries):
        self.walk = walk
        self.deeds = {}
        self.begun = {}
        self.reached = {}
        self.waiting = []
        for mode, left, right in entries:
            self.enter(mode, left, right)
        while self.waiting:
            self.follow(self.waiting.pop())

    def enter(self, mode, left, right):
        """Keeps an entry, and begins all halves with which its blocks begin."""
        if (mode, left, right) in self.reached:
            return
        self.reached[mode, left, right] = True
        line, flags = mode
        if left:
            self.begin(("left", right, line, flags, False))
        if right:
            self.begin(("right", left, line, flags, False))
        if left and right:
            self.begin(("both", False, line, flags, False))

    def begin(self, at):
        """Keeps a situation with which a half begins."""
        if at not in self.begun:
            self.begun[at] = True
            self.waiting.append(at)

    def follow(self, at):
        """Goes on from a situation in its half, to the end or to what was done before."""
        while at not in self.deeds and at[2] < len(self.walk):
            word, behind = deed_at(self.walk, at)
            self.deeds[at] = (word, behind)
            if word == "wrong":
                return
            if word == "pairs":
                self.leave(behind, EITHER, EITHER)
                return
            if word in SIDES:
                self.pass_item(word, behind)
            at = behind

    def pass_item(self, side, at):
        """Begins what can come behind a step if it passes the last item of its row."""
        half, more, line, flags, is_put = at
        if half == "both":
            rest = "right" if side == "left" else "left"
            for is_more in EITHER:
                self.begin((rest, is_more, line, flags, is_put))
        elif half == "left":
            self.leave(at, EITHER, (more,))
        else:
            self.leave(at, (more,), EITHER)

    def leave(self, at, more_left, more_right):
        """Keeps the entries behind blocks that are done with a situation."""
        for left in more_left:
            for right in more_right:
                mode = mode_behind(self.walk, at, left or right)
                if mode is not None:
                    self.enter(mode, left, right)


def deed_at(walk, at):
    """What is done in a situation, and the situation behind it in the same half."""
    half, more, line, flags, is_put = at
    event, behind = moves_at(walk, (line, flags, *FORMS[half, more, is_put]))[0]
    if not behind or (event[0] in ("put", "step") and half not in ("both", event[2])):
        return "wrong", None
    after = behind[0]
    if event[0] == "put":
        return "put", (half, more, after[0], after[1], True)
    word = ""
    if event[0] == "step":
        word = event[2]
    elif event[0] == "pairs":
        word = "pairs"
    return word, (half, more, after[0], after[1], is_put)


def mode_behind(walk, at, is_more):
    """The mode behind a block, or None if the run has ended or neither row has more items."""
    if at[2] == len(walk) or not is_more:
        return None
    return at[2], at[3]


def measured(deeds, at):
    """How many left and right items a half steps in its start, and how many in its ring.

    Told as a pair of pairs; a half that ends has no ring, so nothing is stepped in it.
    """
    places = {}
    words = []
    while at in deeds and at not in places:
        places[at] = len(words)
        word, behind = deeds[at]
        words.append(word)
        if word == "pairs":
            return stepped(words), (0, 0)
        at = behind
    first = places.get(at, len(words))
    return stepped(words[:first]), stepped(words[first:])


def stepped(words):
    """How many left and right items are stepped."""
    return words.count("left"), words.count("right")
