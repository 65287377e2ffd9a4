import unittest

from helpers import HeadsCase
from judge import Blocks, is_dense
from loops import fit_walks
from pairs import ALL_LEFT, NAMES, capped, ranks, short_pairs
from test_books import GREATEST_FIT, TEXTS
from test_fits import UNFIT
from twoheads.alike import alike
from twoheads.books import Book
from twoheads.errors import TooLarge, Unfit
from twoheads.modes import classes, parting
from twoheads.walks import Walk

FIRST = (0, ())
# Puts each second value of the left row: the flag tells which one comes.
SECOND = ("while left\n  if right and more\n    step right\n  else\n    if f\n      put left\n      step left\n      while left and not new left\n"
          "        step left\n      clear f\n    else\n      set f\n      step left")


def from_mode(blocks, mode, left, right):
    """What a walk puts on rows from a mode on: behind rows that lead to it, told by runs; the first rank is 0."""
    before = blocks.ways[mode, True, True]
    first = len(set(before[0] + before[1]))
    put = ranks(blocks.walk, before[0] + tuple(k + first for k in left), before[1] + tuple(k + first for k in right))
    return [k - first for k in put if k >= first]


def double_modes(walk):
    return [mode for mode, left, right in Book(walk).entries() if left and right]


class ModesTests(HeadsCase):
    def classed(self, walk, most=5):
        """Checks the classes of a walk, and what parts all of its modes, and returns them."""
        found = classes(walk)
        self.same_kinds(found, sorted(sorted(told) for told in found))
        modes = double_modes(walk)
        self.same_kinds(sorted(mode for told in found for mode in told), modes)
        class_of = {mode: k for k, told in enumerate(found) for mode in told}
        blocks = Blocks(walk, 4)
        pairs = [(left, right) for left, right in short_pairs(most) if left and right]
        for one in modes:
            for other in modes:
                self.parts(blocks, one, other, class_of[one] == class_of[other], pairs)
        return found

    def parts(self, blocks, one, other, is_same, pairs):
        walk = blocks.walk
        rows = parting(walk, one, other)
        self.assertEqual(rows is None, is_same, (str(walk), one, other))
        least = next((len(left) + len(right) for left, right in pairs
                      if from_mode(blocks, one, left, right) != from_mode(blocks, other, left, right)), None)
        if rows is None:
            self.assertIsNone(least)
            return
        self.assertEqual([rows.__class__, *[row.__class__ for row in rows]], [tuple] * 3)
        left, right = rows
        self.assertTrue(left and right and is_dense(left, right), rows)
        self.assertNotEqual(from_mode(blocks, one, left, right), from_mode(blocks, other, left, right))
        if least is not None:
            self.assertEqual(len(left) + len(right), least, (str(walk), one, other, rows))
        else:
            self.assertGreater(len(left) + len(right), max(len(told[0]) + len(told[1]) for told in pairs))

    def test_usual_walks(self):
        for name in NAMES:
            self.assertEqual(self.classed(Walk.sample(name)), [[FIRST]])

    def test_told_walks(self):
        for name in ("alone", "pairs", "stops", "tails"):
            for walk in (Walk.read(TEXTS[name]), -Walk.read(TEXTS[name])):
                self.classed(walk)

    def test_capped(self):
        # The flags tell of the value that was passed; they are cleared ahead of being asked.
        for most in (1, 2, 3, 4):
            self.assertEqual(len(self.classed(capped(most), 4)), 1)
        self.assertGreater(len(classes(capped(4))[0]), 3)

    def test_second_values(self):
        walk = Walk.read("while left\n  if right and more\n    step right\n  elif f\n    put left\n    step left\n    clear f\n  else\n"
                         "    set f\n    step left")
        self.assertEqual(self.classed(walk), [[(0, ()), (6, ("f",))], [(0, ("f",))]])
        self.assertEqual(len(sum(parting(walk, (0, ()), (0, ("f",))), ())), 2)

    def test_far_apart(self):
        # The third value and all behind it are put.
        walk = Walk.read("while left\n  if right and more\n    step right\n  else\n    if f and g\n      put left\n    elif f\n"
                         "      set g\n    else\n      set f\n    step left")
        found = self.classed(walk)
        self.assertEqual(len(found), 3)
        rows = parting(walk, (0, ()), (0, ("f",)))
        self.assertEqual((len(rows[0]), len(rows[1])), (2, 1))

    def test_nothing_put(self):
        walk = Walk.read("while left and right\n  if less\n    step left\n    set f\n  elif more\n    step right\n    clear f\n  else\n    stop")
        found = self.classed(walk)
        self.assertEqual(len(found), 1)
        self.assertGreater(len(found[0]), 2)

    def test_by_chance(self):
        many = 0
        for walk in fit_walks(600, 700):
            if Book(walk).reach <= 24 and len(double_modes(walk)) > 1:
                many += len(self.classed(walk, 3)) > 1
        self.assertGreater(many, 1)

    def test_mode_count(self):
        """A fit walk that is alike has at least as many modes as there are classes, but one of those that put nothing."""
        walk = Walk.read(SECOND)
        for other in (walk, Walk.read("set g\n" + SECOND), Walk.read(SECOND + "\nset g")):
            self.assertTrue(alike(walk, other))
            self.assertGreaterEqual(len(double_modes(other)), len(classes(walk)))
            self.assertEqual(len(classes(other)), len(classes(walk)))

    def test_greatest(self):
        walk = Walk.read(GREATEST_FIT)
        found = classes(walk)
        self.assertGreater(len(found), 1)
        blocks = Blocks(walk, 3)
        pairs = [(left, right) for left, right in short_pairs(3) if left and right]
        for one in double_modes(walk):
            for k, told in enumerate(found):
                self.parts(blocks, one, told[0], one in told, pairs)
            self.assertIsNone(parting(walk, one, one))

    def test_new_lists(self):
        walk = Walk.read(ALL_LEFT)
        found = classes(walk=walk)
        before = [list(told) for told in found]
        found[0].clear()
        found.clear()
        self.assertEqual(classes(walk), before)

    def test_refused(self):
        for word, texts in UNFIT.items():
            walk = Walk.read(texts[0])
            self.raises(Unfit, {"claim": word}, classes, walk)
            for one, other in ((FIRST, FIRST), ((3, ("f",)), (99, ("g",)))):
                self.raises(Unfit, {"claim": word}, lambda: parting(walk=walk, one=one, other=other))
        ring = "while left and not right\n  step left\n  if left\n    step left\n    if left\n      step left"
        self.assertEqual(classes(Walk.read(ring)), [[FIRST]])
        large = Walk.read(ring + "\n      if left\n        step left")
        self.assertEqual(Book(large).reach, 32)
        self.raises(TooLarge, {"most": 24}, classes, large)
        self.raises(TooLarge, {"most": 24}, parting, large, FIRST, FIRST)


if __name__ == "__main__":
    unittest.main()
