import unittest
from math import lcm

from helpers import HeadsCase
from judge import Blocks, fitting_blocks
from loops import fit_walks
from model import GREATEST
from twoheads.blocks import blocks_from
from twoheads.books import Book
from twoheads.errors import BadPlace, Unfit
from twoheads.plays import Play
from twoheads.rows import Row
from twoheads.walks import Walk

NAMES = ("sum", "union", "both", "lacks", "xor", "join")
FIRST = (0, ())
# 24 statements, six deep, two flags, a test of four cases; the flags tell what was done last.
GREATEST_FIT = """while left and right
  if less
    set f
    step left
  elif more
    clear f
    step right
  else
    while left and right and equal
      if f and left and not g or left and new left or right and new right and g or not g and f
        if new left
          put left
        step left
        set g
      else
        put right
        step right
        clear g
while left
  put left
  set f
  step left
while right
  clear g
  put right
  step right"""
TEXTS = {
    # A start of three left items, then a ring of two of them.
    "starts": "while left\n  if right and not less\n    step right\n  else\n    put left\n    step left\n"
              "    while left and not new left\n      step left\n      if left and not new left\n        step left\n"
              "        if not left or new left\n          break\n        put left",
    # All left items ahead of all right ones, with a flag for each second one.
    "alone": "while left or right\n  if left and right and more or not left\n    put right\n    step right\n  elif f\n    clear f\n"
             "    step left\n  else\n    put left\n    set f\n    step left",
    "pairs": "while left and right\n  if less\n    step left\n  elif more\n    step right\n  else\n    put left\n    step left\n"
             "    if left and equal\n      pairs right\n    if left and right\n      set f\n    if f\n      stop",
    "stops": "while left\n  if right and more\n    stop\n  put left\n  step left\nstop",
    "tails": "while left and right\n  if less\n    step left\n  elif more\n    step right\n  else\n    put right\n    step right\n"
             "    step left\nif left\n  put left\n  step left\nwhile right\n  step right\n  if right\n    put right\n    step right",
}


def book_of(text):
    return Book(Walk.read(text))


def turned_block(m, n, more_left, more_right):
    return n, m, more_right, more_left


class BookTests(HeadsCase):
    def by_runs(self, walk, most=3, long=()):
        """Compares a book with runs on rows, value by value."""
        book, blocks = Book(walk), Blocks(walk, most)
        self.same_kinds(book.entries(), sorted(blocks.ways))
        for entry in blocks.ways:
            for block in [*fitting_blocks(entry, most), *long]:
                if block in long and block not in fitting_blocks(entry, max(block[:2])):
                    continue
                self.same_kinds(book(entry[0], *block), blocks.done(entry, block))
        greatest, numbers, _ = blocks.measures()
        self.same_kinds((book.lead, book.cycle), (greatest, lcm(*numbers)))
        self.same_kinds(book.reach, 4 * book.lead + 8 * book.cycle)
        return book

    def test_usual_walks(self):
        long = [(40, 37, True, False), (1, 60, False, True), (60, 60, True, True), (60, 0, False, True), (0, 33, True, True),
                (60, 0, True, False), (0, 60, False, False)]
        for name in NAMES:
            for walk in (Walk.sample(name), -Walk.sample(name)):
                self.by_runs(walk, 4, long)

    def test_told_walks(self):
        for name, text in TEXTS.items():
            for walk in (Walk.read(text), -Walk.read(text)):
                self.by_runs(walk, 7 if name == "starts" else 4)

    def test_loops_by_chance(self):
        walks = fit_walks(0, 60)
        self.assertGreater(len(walks), 15)
        measures = {self.by_runs(walk).reach for walk in walks}
        self.assertGreater(len(measures), 3)

    def test_measures(self):
        for text, lead, cycle in (
            (str(Walk.sample("sum")), 0, 1), (str(Walk.sample("union")), 1, 1), (str(Walk.sample("join")), 0, 1),
            (TEXTS["alone"], 1, 2), ("stop", 0, 1), ("set f", 0, 1),
            ("if left\n  if not right or not more\n    put left\n    step left", 1, 1),
            ("while left and right and equal\n  step left\n  step right", 1, 1),
            ("while left and not right\n  step left\n  if left\n    step left\n    if left\n      step left", 0, 3),
            ("while left and right\n  if less\n    step left\n  elif more\n    step right\n  else\n    step left\n"
             "    if left and equal\n      step left\n      if left and equal\n        pairs left", 2, 1),
        ):
            book = book_of(text)
            self.assertEqual((book.lead, book.cycle, book.reach), (lead, cycle, 4 * lead + 8 * cycle), text)

    def test_greatest_numbers(self):
        book = Book(Walk.sample("union"))
        for m in (0, 1, 2, 59, 60):
            for n in (0, 1, 30, 60):
                if m or n:
                    self.same_kinds(book(FIRST, m, n, True, True)[0], max(m, n))
        book = Book(Walk.sample("join"))
        self.same_kinds(book(FIRST, 60, 60, False, True), (3600, FIRST))
        self.same_kinds(book(FIRST, 60, 59, False, False), (3540, None))
        self.same_kinds(book(FIRST, 60, 0, True, True), (0, FIRST))

    def test_named_arguments(self):
        book = Book(walk=Walk.sample("union"))
        self.same_kinds(book(mode=FIRST, m=2, n=1, more_left=False, more_right=True), (2, FIRST))

    def test_mode_is_none(self):
        book = Book(Walk.sample("both"))
        self.same_kinds(book(FIRST, 2, 1, True, True), (1, FIRST))
        self.same_kinds(book(FIRST, 1, 1, False, False), (1, None))
        self.same_kinds(book(FIRST, 2, 1, True, False), (1, None))
        self.same_kinds(book(FIRST, 2, 2, True, False), (2, FIRST))
        book = book_of("while left and right and equal\n  step left\n  step right")
        self.same_kinds(book(FIRST, 1, 1, True, True), (0, FIRST))
        self.same_kinds(book(FIRST, 2, 1, True, True), (0, None))
        self.same_kinds(book(FIRST, 1, 0, False, True), (0, None))
        book = book_of("if left and right and equal\n  pairs left")
        self.same_kinds(book(FIRST, 2, 3, True, True), (6, None))
        book = book_of("if left and right and equal\n  pairs left\nstop")
        self.same_kinds(book(FIRST, 2, 3, True, False), (6, (2, ())))
        self.same_kinds(book(FIRST, 2, 3, False, False), (6, None))
        self.same_kinds(book.entries(), [(FIRST, False, True), (FIRST, True, False), (FIRST, True, True),
                                         ((2, ()), False, True), ((2, ()), True, False), ((2, ()), True, True)])

    def test_half_between_two_steps(self):
        book = book_of("while left and right and equal\n  step left\n  step right\n  if right\n    stop")
        self.same_kinds(book(FIRST, 1, 2, True, True), (0, None))
        self.same_kinds(book(FIRST, 1, 1, True, True), (0, (3, ())))
        self.assertEqual((book.lead, book.cycle), (1, 1))

    def test_entries_are_new_lists(self):
        book = Book(Walk.sample("union"))
        found = book.entries()
        self.same_kinds(found, [(FIRST, False, True), (FIRST, True, False), (FIRST, True, True),
                                ((10, ()), True, False), ((13, ()), False, True)])
        found.clear()
        self.assertEqual(len(book.entries()), 5)

    def test_places(self):
        looking = ("set f\nwhile left or right\n  if not right or left and not more\n    if right and f\n      put left\n"
                   "    step left\n  else\n    if left and f\n      put right\n    step right")
        for walk in [*[Walk.sample(name) for name in NAMES], Walk.read(looking)]:
            book = Book(walk)
            for m in range(13):
                for n in range(13):
                    if m or n:
                        self.same_kinds(book[m, n], book(FIRST, m, n, True, True)[0])
            for at in ((0, 0), (-1, 0), (0, -1), (13, 0), (0, 13), (13, 13), (-1, 5), (5, -1), (-1, 1), (1, -1), (12, 13),
                       (10 ** 59, 1), (1, -(10 ** 59)), (60, 60), (-3, 3)):
                self.raises(BadPlace, {"at": at}, lambda k=at: book[k])
            with self.assertRaises(TypeError):
                list(book)
        self.same_kinds([book[2, 0], book[0, 3], book[2, 3]], [2, 3, 5])
        self.same_kinds(book(FIRST, 2, 3, False, False), (2, None))

    def test_turned(self):
        for walk in fit_walks(60, 100):
            one, other = Book(walk), Book(-walk)
            self.assertEqual((one.lead, one.cycle, one.reach), (other.lead, other.cycle, other.reach))
            self.assertEqual(sorted((mode, right, left) for mode, left, right in one.entries()), other.entries())
            for entry in one.entries():
                for block in fitting_blocks(entry, 3):
                    self.assertEqual(one(entry[0], *block), other(entry[0], *turned_block(*block)))

    def test_walk_stays(self):
        walk = Walk.sample("union")
        book = Book(walk)
        self.assertIs(book.walk, walk)
        self.assertEqual(walk, Walk.sample("union"))

    def test_unfit(self):
        for word, text in (("inside", "step left"), ("inside", "while left or right\n  if less\n    step left\n  else\n    step right"),
                           ("ending", "while left\n  put left"), ("level", "while left\n  step left"),
                           ("steady", "while left and right and equal\n  step left\n  step right\n  if left and right and equal\n"
                                      "    step left")):
            self.raises(Unfit, {"claim": word}, Book, Walk.read(text))

    def test_greatest(self):
        walk = Walk.read(GREATEST_FIT)
        self.assertEqual((len(walk), max(depth for _, depth, _ in walk.lines())), (24, 6))
        self.assertGreater(len(self.by_runs(walk, 3).entries()), 10)
        self.raises(Unfit, {"claim": "ending"}, Book, Walk.read(GREATEST))

    def test_example(self):
        book = Book(Walk.sample("union"))
        self.same_kinds((book[2, 3], book(FIRST, 2, 1, False, False), book(FIRST, 2, 1, True, True)), (3, (2, None), (2, FIRST)))
        self.same_kinds((book.lead, book.cycle, book.reach), (1, 1, 12))


class ValueTests(HeadsCase):
    """Whole runs on rows, value by value."""

    def runs_alike(self, walk, left, right):
        book, mode = Book(walk), FIRST
        play = Play(walk, Row(left), Row(right))
        play.run(100000)
        put = [item.rank for item in play.put]
        for value in sorted(set(left + right)):
            block = (left.count(value), right.count(value), max(left, default=0) > value, max(right, default=0) > value)
            many = 0
            if mode is not None:
                many, mode = book(mode, *block)
            self.assertEqual(put.count(value), many, (str(walk), left, right, value))

    def test_runs(self):
        for k, walk in enumerate([*fit_walks(100, 150), *[Walk.read(text) for text in TEXTS.values()]]):
            for j in range(6):
                left = sorted((k * 7 + j * 5 + i * i * 3) // 4 % 5 for i in range((k + j * 3) % 11))
                right = sorted((k * 5 + j * 3 + i * i) // 3 % 6 for i in range((k * 3 + j) % 9))
                self.runs_alike(walk, left, right)
            self.runs_alike(walk, [1] * 30 + [2] * 45, [1] * 41 + [3] * 60)


class BlocksFromTests(HeadsCase):
    def test_same_as_one_by_one(self):
        told = [*[Walk.sample(name) for name in NAMES], *[Walk.read(text) for text in TEXTS.values()]]
        for walk in [*fit_walks(150, 190), *told, *[-walk for walk in told]]:
            book = Book(walk)
            for entry in book.entries():
                found = blocks_from(book.halves, entry, 6)
                self.assertEqual(sorted(found), sorted(fitting_blocks(entry, 6)))
                for block in found:
                    self.same_kinds(found[block], book(entry[0], *block))


if __name__ == "__main__":
    unittest.main()
