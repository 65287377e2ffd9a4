import unittest
from itertools import product

from forms import all_forms, spread
from helpers import ODD_VALUES, HeadsCase
from twoheads.claims import Claim
from twoheads.errors import BadName
from twoheads.stands import moves
from twoheads.verdicts import Holds
from twoheads.walks import Walk

WORDS = ("inside", "ending", "ordered", "single", "stable", "level", "keeps left", "keeps right",
         "uses left", "uses right", "spares left", "spares right")
WALK = Walk.read("put left\nput right\nstep left\nstep right\npairs left\npairs right\nset f\nclear f\n"
                 "if left and less\n  while new left or right and new right\n    break\n  stop")


def puts_of(event, left, right):
    """The items that an event puts, as tuples (rank, side, number of the item from the head on)."""
    if event[0] == "put":
        return [(left if event[2] == "left" else right, event[2], 0)]
    if event[0] == "pairs":
        m, n = event[3:]
        own, other = (m, n) if event[2] == "left" else (n, m)
        return [(left, event[2], k) for k in range(own) for _ in range(other)]
    return []


def passed_by(event, side):
    """How many items of a side an event passes."""
    if event[0] == "step":
        return int(event[2] == side)
    if event[0] == "pairs":
        return event[3] if side == "left" else event[4]
    return 0


def wanted_mark(word, form, mark, event):
    """The mark that the definitions ask for, told from ranks and numbers."""
    left, right, last = spread(*form)
    kind, _, side = word.partition(" ")
    if event[0] in ("behind", "unlike"):
        return None if word == "inside" else 0
    puts = puts_of(event, left, right)
    last_side = "right" if mark else "left"
    ranks = [(last, last_side)] * (last is not None) + [(rank, of) for rank, of, _ in puts]
    for (one, one_side), (other, other_side) in zip(ranks, ranks[1:]):
        if word == "ordered" and one > other or word == "single" and one == other:
            return None
        if word == "stable" and one == other and (one_side, other_side) == ("right", "left"):
            return None
    if word == "stable":
        return int(puts[-1][1] == "right") if puts else mark
    if word == "level" and event[0] in ("put", "step") and None not in (left, right):
        return None if {"left": left, "right": right}[event[2]] > min(left, right) else 0
    if kind == "spares":
        return None if [of for _, of, _ in puts if of == side] else 0
    if kind == "keeps":
        counts = [mark, 0, 0]
        for _, of, k in puts:
            counts[k] += of == side
        passed = passed_by(event, side)
        if max(counts) > 1 or set(counts[:passed]) - {1}:
            return None
        return counts[passed]
    return 0


class ClaimTests(HeadsCase):
    def test_words(self):
        self.same_kinds(Claim.WORDS, WORDS)
        for word in WORDS:
            claim = Claim(word=word)
            self.same_kinds((claim.word, str(claim), claim.WORDS), (word, word, WORDS))

    def test_bad_names(self):
        near = ("Inside", " inside", "inside ", "insid", "keeps", "keeps  left", "left keeps", "uses both", "keeps\nleft",
                "spares", "uses-left", "holds", "steady", "fit", ("inside",), ["inside"], {"inside": 1}, Claim("inside"))
        for value in (*ODD_VALUES, *near, "x" * 6000):
            with self.assertRaises(BadName) as caught:
                Claim(value)
            self.assertIs(caught.exception.name, value)

    def test_equal(self):
        for one, other in product(WORDS, WORDS):
            self.assertIs(Claim(one) == Claim(other), one == other)
            self.assertIs(Claim(one) != Claim(other), one != other)
        for value in (*ODD_VALUES, "inside", ("inside",), Holds(()), Walk.read("stop")):
            self.assertIs(Claim("inside") == value, False)
            self.assertIs(value == Claim("inside"), False)

    def test_turned(self):
        for word in WORDS[:6]:
            claim = Claim(word)
            self.assertIs(claim.turned(), claim)
        for kind in ("keeps", "uses", "spares"):
            left, right = Claim(f"{kind} left"), Claim(f"{kind} right")
            self.assertEqual((left.turned(), right.turned()), (right, left))
            self.assertEqual((left.word, right.word), (f"{kind} left", f"{kind} right"))

    def test_marks_at_all_stands(self):
        for word, form, mark in product(WORDS, all_forms(), (0, 1)):
            claim = Claim(word)
            for line in range(len(WALK)):
                stand = (line, ("f",), *form)
                for event, _ in moves(WALK, stand):
                    found = claim.mark(stand, mark, event)
                    self.same_kinds(found, wanted_mark(word, form, mark, event))
                    self.same_kinds(claim.mark(event=event, mark=mark, stand=stand), found)

    def marks(self, word, form, event, marks=(0, 0)):
        """Checks the marks behind an event for the marks 0 and 1."""
        found = [Claim(word).mark((0, (), *form), mark, event) for mark in (0, 1)]
        self.same_kinds(found, list(marks))

    def test_pairs(self):
        fresh, again = ("equal", "below", "below"), ("equal", "equal", "equal")
        for side, other in (("left", "right"), ("right", "left")):
            for m, n in ((1, 1), (1, 2), (2, 1)):
                event = ("pairs", 0, side, m, n)
                self.marks("single", fresh, event, (0, 0) if (m, n) == (1, 1) else (None, None))
                self.marks("single", again, event, (None, None))
                self.marks("ordered", again, event)
                self.marks("ordered", ("equal", "above", "above"), event, (None, None))
                self.marks("level", again, event)
                self.marks(f"spares {side}", fresh, event, (None, None))
                self.marks(f"spares {other}", fresh, event)
                own, others = (m, n) if side == "left" else (n, m)
                self.marks(f"keeps {side}", fresh, event, (0 if others == 1 else None, None))
                self.marks(f"keeps {other}", fresh, event, (None, 0 if others == 1 else None))
            self.marks("stable", fresh, ("pairs", 0, side, 1, 1), (int(side == "right"),) * 2)
        self.marks("stable", again, ("pairs", 0, "left", 1, 2), (0, None))
        self.marks("stable", again, ("pairs", 0, "right", 2, 1), (1, 1))

    def test_falls(self):
        for event in (("behind", 0, "left"), ("behind", 3, "right"), ("unlike", 2)):
            for word in WORDS[1:]:
                self.marks(word, ("less", "none", "none"), event)
            self.marks("inside", ("less", "none", "none"), event, (None, None))

    def test_stable(self):
        equal = ("equal", "equal", "equal")
        self.marks("stable", equal, ("put", 0, "left"), (0, None))
        self.marks("stable", equal, ("put", 0, "right"), (1, 1))
        self.marks("stable", ("less", "below", "below"), ("put", 0, "left"))
        for event in (("step", 0, "left"), ("step", 0, "right"), ("test", 0, True), ("set", 0, "f"), ("stop", 0)):
            self.marks("stable", equal, event, (0, 1))

    def test_keeps(self):
        form = ("less", "equal", "below")
        for side, other in (("left", "right"), ("right", "left")):
            self.marks(f"keeps {side}", form, ("put", 0, side), (1, None))
            self.marks(f"keeps {side}", form, ("step", 0, side), (None, 0))
            for event in (("put", 0, other), ("step", 0, other), ("test", 0, False), ("clear", 0, "f"), ("break", 0)):
                self.marks(f"keeps {side}", form, event, (0, 1))

    def test_level(self):
        for kind in ("put", "step"):
            for heads, side, broken in (("less", "left", False), ("less", "right", True), ("more", "left", True),
                                        ("more", "right", False), ("equal", "left", False), ("equal", "right", False),
                                        ("left", "left", False), ("right", "right", False)):
                self.marks("level", (heads, "none", "none"), (kind, 0, side), (None, None) if broken else (0, 0))

    def test_ends(self):
        for word, form in product(WORDS, all_forms()):
            kind, _, side = word.partition(" ")
            ended = {"left": form[1], "right": form[2]}.get(side) == "-"
            wanted = ended if kind in ("keeps", "uses") else True
            self.assertIs(Claim(word).ends((12, (), *form)), wanted)
            self.assertIs(Claim(word).ends(stand=(12, ("f",), *form)), wanted)


if __name__ == "__main__":
    unittest.main()
