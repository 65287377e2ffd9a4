import unittest
from itertools import product

from helpers import ODD_VALUES, HeadsCase
from judge import Blocks, fitting_blocks
from loops import fit_walks
from test_books import GREATEST_FIT
from twoheads.books import Book
from twoheads.claims import Claim
from twoheads.errors import BadName, TooLarge, Unfit
from twoheads.tallies import Tally, tally_of
from twoheads.walks import Walk

USUAL = {"sum": (1, 1, 0, 0), "union": (1, 1, -1, 0), "both": (0, 0, 1, 0), "lacks": (1, 0, -1, 0), "xor": (1, 1, -2, 0),
         "join": (0, 0, 0, 1), "left": (1, 0, 0, 0), "right": (0, 1, 0, 0), "none": (0, 0, 0, 0)}
NAMES = ("sum", "union", "both", "lacks", "xor", "join")


def terms(tally):
    return (tally.a, tally.b, tally.c, tally.e)


def value(told, m, n):
    a, b, c, e = told
    return a * m + b * n + c * min(m, n) + e * m * n


class TallyTests(HeadsCase):
    def test_values(self):
        great = 10 ** 9
        for told in ((0, 0, 0, 0), (1, 2, 3, 4), (-5, 7, -11, 13), (999999, -999999, 999999, -999999)):
            tally = Tally(*told)
            self.same_kinds(terms(tally), told)
            for m, n in product((0, 1, 2, 7, great - 1, great), repeat=2):
                self.same_kinds(tally(m, n), value(told, m, n))
                self.same_kinds(tally(n=n, m=m), value(told, m, n))
        self.same_kinds(terms(Tally(3, 4)), (3, 4, 0, 0))
        self.same_kinds(terms(Tally(b=3, a=4, e=5)), (4, 3, 0, 5))

    def test_equal(self):
        all_terms = list(product((-1, 0, 1), repeat=4))
        for one in all_terms[::7]:
            for other in all_terms[::5]:
                self.assertIs(Tally(*one) == Tally(*other), one == other)
                self.assertIs(Tally(*one) != Tally(*other), one != other)
        for odd in (*ODD_VALUES, (0, 0, 0, 0), "none", Claim("inside"), Walk.read("stop")):
            self.assertIs(Tally(0, 0) == odd, False)
            self.assertIs(odd == Tally(0, 0), False)

    def test_signs(self):
        one, other = Tally(1, 2, 3, 4), Tally(10, -20, 30, -40)
        self.same_kinds(terms(one + other), (11, -18, 33, -36))
        self.same_kinds(terms(one - other), (-9, 22, -27, 44))
        self.same_kinds(terms(-one), (2, 1, 3, 4))
        self.assertEqual(-(-other), other)
        for k in (0, 1, -1, 7, 999999, -999999):
            wanted = tuple(k * part for part in terms(one))
            self.same_kinds(terms(one * k), wanted)
            self.same_kinds(terms(k * one), wanted)
        self.same_kinds((terms(one), terms(other)), ((1, 2, 3, 4), (10, -20, 30, -40)))
        for m, n in product(range(4), repeat=2):
            self.assertEqual((-one)(m, n), one(n, m))
            self.assertEqual((one + other)(m, n), one(m, n) + other(m, n))
        self.same_kinds(terms(Tally(999999, 0) * 999999 * 999999), (999999 ** 3, 0, 0, 0))
        for odd in (1, "a", None, (1, 2, 3, 4)):
            with self.assertRaises(TypeError):
                one + odd
            with self.assertRaises(TypeError):
                one - odd
        for odd in (True, "a", None, other, (1,)):
            with self.assertRaises(TypeError):
                one * odd
            with self.assertRaises(TypeError):
                odd * one

    def test_under(self):
        count = {True: 0, False: 0}
        numbers = (-2, -1, 0, 1, 2)
        for told in product(numbers, (-1, 0, 1, 2), (-4, -3, -2, -1, 0, 1, 2), numbers):
            wanted = all(value(told, m, n) >= 0 for m in range(12) for n in range(12))
            one = Tally(3, -1, 2, 5)
            self.assertIs(one.under(one + Tally(*told)), wanted, told)
            self.assertIs(Tally(0, 0).under(other=Tally(*told)), wanted, told)
            count[wanted] += 1
        self.assertTrue(all(many > 30 for many in count.values()), count)
        self.assertIs(Tally(0, 0).under(Tally(0, 0, -100, 100)), True)
        self.assertIs(Tally(0, 0).under(Tally(0, 0, -101, 100)), False)
        self.assertIs(Tally(0, 0).under(Tally(999999, 999999, 999999, -1)), False)
        self.assertIs(Tally(0, 0).under(Tally(50, 50, -100)), True)
        self.assertIs(Tally(0, 0).under(Tally(50, 49, -100)), False)
        order = ["none", "both", "left", "union", "sum"]
        for k, one in enumerate(order):
            for j, other in enumerate(order):
                self.assertIs(Tally.usual(one).under(Tally.usual(other)), k <= j)

    def test_usual(self):
        for name, told in USUAL.items():
            self.same_kinds(terms(Tally.usual(name)), told)
            self.assertIsNot(Tally.usual(name=name), Tally.usual(name))
            self.assertEqual(Tally(*told).label, name)
        for odd in (*[odd for odd in ODD_VALUES if odd != "left"], "Sum", "sums", " sum", "outer", ("sum",), ["sum"], Tally(1, 1)):
            with self.assertRaises(BadName) as caught:
                Tally.usual(odd)
            self.assertIs(caught.exception.name, odd)

    def test_label(self):
        self.assertIsNone(Tally(1, 1, 1).label)
        self.assertIsNone(Tally(2, 0).label)
        self.assertIsNone(Tally(0, 1, -1).label)
        self.assertEqual((-Tally.usual("left")).label, "right")
        self.assertEqual((Tally.usual("sum") - Tally.usual("both")).label, "union")
        self.assertEqual((Tally.usual("sum") + -2 * Tally.usual("both")).label, "xor")

    def test_example(self):
        union = Walk.sample("union")
        self.same_kinds((tally_of(union) == Tally(1, 1, -1), tally_of(Walk.sample("xor")).label, Tally.usual("join")(3, 4)),
                        (True, "xor", 12))
        self.same_kinds((Tally.usual("both").under(Tally.usual("union")), Tally.usual("join").under(Tally.usual("sum"))),
                        (True, False))


class TallyOfTests(HeadsCase):
    def has(self, told, text):
        for walk, wanted in ((Walk.read(text), told), (-Walk.read(text), told and (told[1], told[0], *told[2:]))):
            found = tally_of(walk=walk)
            self.same_kinds(found and terms(found), wanted)

    def test_usual_walks(self):
        for name in NAMES:
            self.assertEqual(tally_of(Walk.sample(name)), Tally.usual(name))
            self.assertEqual(tally_of(Walk.sample(name)).label, name)
            self.assertEqual(tally_of(-Walk.sample(name)), -Tally.usual(name))

    def test_other_tallies(self):
        lead = "while left and right\n  if less\n    put left\n    put left\n    step left\n  elif more\n    step right\n  else\n"
        tail = "\nwhile left\n  put left\n  put left\n  step left"
        self.has((2, 0, 0, 0), lead + "    put left\n    put right\n    step left" + tail)
        self.has((2, 0, -1, 0), lead + "    put right\n    step right\n    step left" + tail)
        self.has((2, 0, 3, 0), lead + "\n".join(["    put left"] * 5) + "\n    step left\n    step right" + tail)
        self.has((0, 0, 0, 0), "stop")
        self.has((0, 0, 0, 0), "while left or right\n  if not right or left and not more\n    step left\n  else\n    step right")
        join = "while left and right\n  if less\n    step left\n  elif more\n    step right\n  else\n    "
        self.has((0, 0, 0, 1), join + "pairs right")
        self.has((0, 0, 0, 1), join + "pairs left\nset f\nset g")

    def test_no_tally(self):
        join = "while left and right\n  if less\n    step left\n  elif more\n    step right\n  else\n    "
        self.has(None, join + "put left\n    pairs right")
        self.has(None, "while left\n  if not right or not more\n    if new left\n      put left\n    step left\n  else\n    step right")
        self.has(None, "while left or right\n  if left and right and more or not left\n    step right\n  elif f\n    clear f\n"
                       "    step left\n  else\n    put left\n    set f\n    step left")
        # Only the values behind the first one, or in the end of one row, are put otherwise.
        self.has(None, "while left or right\n  if not right or left and not more\n    if f\n      put left\n    step left\n"
                       "    set f\n  else\n    step right\n    set f")
        self.has(None, "while left and right\n  if less\n    put left\n    step left\n  elif more\n    step right\n  else\n"
                       "    put left\n    step left")
        self.has(None, "while left and right\n  if less\n    step left\n  elif more\n    step right\n  else\n    put left\n"
                       "    step left\nwhile left\n  put left\n  step left")

    def test_runs_that_end_early(self):
        self.has(None, "if left\n  if not right or not more\n    put left\n    step left")
        self.has(None, "while left\n  if right and more\n    stop\n  put left\n  step left")
        self.has(None, "while right and left\n  if less\n    put left\n    step left\n  elif more\n    put right\n    step right\n"
                       "  else\n    put left\n    step left\n    put right\n    step right")
        self.has((0, 0, 0, 0), "if left\n  if not right or not more\n    step left")
        self.has((0, 0, 1, 0), str(Walk.sample("both")))

    def test_refused(self):
        for word, text in (("inside", "step left"), ("ending", "while left\n  put left"), ("level", "while left\n  step left"),
                           ("steady", "while left and right and equal\n  step left\n  step right\n  if left and right and equal\n"
                                      "    step left")):
            self.raises(Unfit, {"claim": word}, tally_of, Walk.read(text))
        text = "while left and not right\n  step left"
        for k in range(4):
            walk = Walk.read(text)
            reach = 8 * (k + 1)
            self.assertEqual(Book(walk).reach, reach)
            if reach > 24:
                self.raises(TooLarge, {"most": 24}, tally_of, walk)
                self.raises(TooLarge, {"most": 24}, tally_of, -walk)
            else:
                self.assertEqual(tally_of(walk), Tally(0, 0))
            text += "\n" + "  " * (k + 1) + "if left\n" + "  " * (k + 2) + "step left"

    def test_loops_by_chance(self):
        count = {"none": 0, "tally": 0}
        for walk in fit_walks(200, 330):
            if Book(walk).reach > 24:
                self.raises(TooLarge, {"most": 24}, tally_of, walk)
                continue
            found = tally_of(walk)
            turned = tally_of(-walk)
            self.assertEqual(turned, found and -found)
            count["tally" if found else "none"] += 1
            told = self.numbers(walk)
            if found is not None:
                for m, n in told:
                    self.assertEqual(told[m, n], {found(m, n)}, (str(walk), m, n))
        self.assertTrue(all(many > 0 for many in count.values()), count)

    def numbers(self, walk):
        """For all small numbers of items, how many are put by runs, in all blocks of reached entries."""
        blocks, found = Blocks(walk, 3), {}
        for entry in blocks.ways:
            for block in fitting_blocks(entry, 3):
                many, mode = blocks.done(entry, block)
                found.setdefault(block[:2], set()).add(many)
                if mode is None:
                    for other in fitting_blocks((None, *block[2:]), 3):
                        found.setdefault(other[:2], set()).add(0)
        return found

    def test_none_is_right(self):
        for walk in fit_walks(330, 370):
            if Book(walk).reach <= 24 and tally_of(walk) is None:
                self.assertTrue(self.parts(walk), str(walk))

    def parts(self, walk):
        """Whether no tally tells the numbers that are put by runs."""
        told = self.numbers(walk)
        if any(len(many) > 1 for many in told.values()):
            return True
        told = {block: min(many) for block, many in told.items()}
        a, b = told[1, 0], told[0, 1]
        e = told[2, 1] - told[1, 1] - a
        return any(value((a, b, told[1, 1] - a - b - e, e), *block) != many for block, many in told.items())

    def test_greatest(self):
        self.assertIsNone(tally_of(Walk.read(GREATEST_FIT)))


if __name__ == "__main__":
    unittest.main()
