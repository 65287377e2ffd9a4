import unittest

from helpers import HeadsCase
from judge import Blocks
from loops import Loops, fit_walks
from model import GREATEST, Maker
from twoheads.books import Book
from twoheads.checks import check
from twoheads.errors import BadWalk, Unfit
from twoheads.fits import need_fit, skew
from twoheads.tallies import tally_of
from twoheads.walks import Walk

NAMES = ("sum", "union", "both", "lacks", "xor", "join")
UNFIT = {
    "inside": ("step left", "while left or right\n  if less\n    step left\n  else\n    step right",
               "while left\n  put right\n  put left", "pairs left", "while left\n  if left and right\n    pairs left\n  step left"),
    "ending": ("while left\n  put left", "while left or right\n  set f", "while not f\n  set g\nwhile left\n  step left"),
    "level": ("while left\n  step left", "while left\n  put left\n  step left\nwhile right\n  put right\n  step right",
              "while left and right\n  if less\n    step left\n  else\n    step right\n    put left"),
    "steady": ("while left and right\n  if less\n    step left\n  elif more\n    step right\n  else\n    step left\n"
               "    step right\n    if left and right and equal\n      step left",),
}
# In each round of equal heads, two left items and one right item are stepped.
UNEVEN = UNFIT["steady"][0]


def told_word(deed, walk):
    """The word for which a function refuses a walk, or None."""
    try:
        deed(walk)
    except Unfit as error:
        return error.claim
    return None


def same_meaning(walk):
    """Walks with the same meaning, told in other ways."""
    text = str(walk)
    words = [row.split(" ") for row in text.split("\n")]
    found = [Walk.read("\n".join(" ".join("zz" if word == "f" else word for word in row) for row in words))]
    rows = []
    for row in text.split("\n"):
        head, _, test = row.lstrip().partition(" ")
        if head in ("if", "elif", "while") and " or " not in test:
            row = f"{row} or {test}"
        rows.append(row)
    found.append(Walk.read("\n".join(rows)))
    try:
        found.append(Walk.read("clear f\n" + text))
        found.append(Walk.read("clear g\nclear f\n" + text))
    except BadWalk:
        pass
    return found


class NeedFitTests(HeadsCase):
    def refused(self, word, walk):
        """Checks that a walk is refused for this word, None for none, by all that need fit walks."""
        for deed in (need_fit, Book, tally_of):
            self.assertEqual(told_word(deed, walk), word, str(walk))
        self.assertEqual(told_word(skew, walk), None if word == "steady" else word)

    def test_usual_walks(self):
        for name in NAMES:
            self.assertIsNone(need_fit(walk=Walk.sample(name)))
            self.assertIsNone(skew(walk=Walk.sample(name)))
            self.refused(None, Walk.sample(name))
            self.refused(None, -Walk.sample(name))

    def test_each_word(self):
        for word, texts in UNFIT.items():
            for text in texts:
                self.refused(word, Walk.read(text))
                self.refused(word, -Walk.read(text))

    def test_first_of_several_words(self):
        self.refused("inside", Walk.read("while left\n  put left\n  put right"))
        self.refused("ending", Walk.read("while left\n  put left\n  if f\n    step left"))
        self.refused("inside", Walk.read("while left\n  step left\nstep right\n" + UNEVEN))
        self.refused("level", Walk.read(UNEVEN + "\n  if left\n    step left"))

    def test_by_checks(self):
        walks = [walk for walk in [Loops(seed).walk() for seed in range(200)] if walk is not None]
        for seed in range(300):
            try:
                walks.append(Walk(*Maker(seed).block(0, False, 4)))
            except BadWalk:
                pass
        count = {}
        for walk in walks:
            word = next((word for word in ("inside", "ending", "level") if not check(walk, word)), None)
            found = told_word(need_fit, walk)
            self.assertEqual(told_word(skew, walk), word)
            self.assertIn(found, (word, word or "steady"))
            count[found] = count.get(found, 0) + 1
        self.assertEqual(set(count), {"inside", "ending", "level", "steady", None})

    def test_same_meaning(self):
        walks = [Walk.sample(name) for name in NAMES] + [Walk.read(text) for texts in UNFIT.values() for text in texts]
        walks += [walk for walk in [Loops(seed).walk() for seed in range(120)] if walk is not None]
        count = {}
        for walk in walks:
            word = told_word(need_fit, walk)
            count[word] = count.get(word, 0) + 1
            for other in (-walk, *same_meaning(walk)):
                self.assertEqual(told_word(need_fit, other), word, str(other))
        self.assertEqual(set(count), {"inside", "ending", "level", "steady", None})

    def test_greatest(self):
        self.assertEqual(told_word(need_fit, Walk.read(GREATEST)), "ending")


class SkewTests(HeadsCase):
    def test_told_rings(self):
        self.assertEqual(skew(Walk.read(UNEVEN)), ((0, ()), 2, 1))
        self.assertEqual(skew(-Walk.read(UNEVEN)), ((0, ()), 1, 2))
        text = ("while left and right\n  if less\n    set f\n    step left\n  elif more\n    step right\n  elif f\n    step left\n"
                "    if left and right and equal\n      step right\n      if left and right and equal\n"
                "        step right\n        if left and right and equal\n          step right\n  else\n    pairs left")
        mode, m, n = skew(Walk.read(text))
        self.assertEqual(((m, n), mode[1]), ((1, 3), ("f",)))

    def test_steady_though_unequal(self):
        for text in ("step left", "step right", "step left\n    if left and right and equal\n      step left",
                     "step left\n    step right", "step right\n    step left",
                     "pairs right", "step left\n    if f\n      set f\n    step right"):
            walk = Walk.read("while left and right\n  if less\n    step left\n  elif more\n    step right\n  else\n    " + text)
            self.assertIsNone(skew(walk))
            self.assertIsNone(need_fit(walk))
        self.assertIsNone(skew(Walk.read(  # Two left items ahead of the ring, which is even.
            "while left and right\n  if less\n    clear f\n    step left\n  elif more\n    clear f\n    step right\n  else\n"
            "    if not f\n      set f\n      step left\n    else\n      step right\n      if left and right and equal\n"
            "        step left")))

    def test_by_runs(self):
        found = 0
        for seed in range(1000, 1230):
            walk = Loops(seed).walk()
            if walk is not None and told_word(skew, walk) is None and skew(walk) is not None:
                found += 1
                _, _, rings = Blocks(walk, 4).measures()
                self.assertIn(skew(walk), rings)
                self.assertTrue(all(many > 0 for many in skew(walk)[1:]) and skew(walk)[1] != skew(walk)[2])
        self.assertGreater(found, 2)

    def test_fit_walks_by_runs(self):
        for walk in fit_walks(1000, 1030):
            self.assertIsNone(skew(walk))
            for _, m, n in Blocks(walk, 4).measures()[2]:
                self.assertTrue(m == n or 0 in (m, n))


if __name__ == "__main__":
    unittest.main()
