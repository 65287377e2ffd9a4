import unittest
from random import Random

from helpers import ODD_VALUES, HeadsCase
from loops import walks_by_chance
from model import GREATEST
from pairs import NAMES, drawn_row, modelled, short_pairs
from test_books import GREATEST_FIT
from twoheads.bounds import Bound, Bounded, Growing, above, bound, is_bounded
from twoheads.checks import check
from twoheads.errors import BadName, Unfit
from twoheads.items import Item
from twoheads.rows import Row
from twoheads.stands import first_stands, moves, stands
from twoheads.walks import Walk

COUNTS = ("compares", "puts")
SIDES = ("left", "right")
FORMS = {"left": 3, "right": 4}
# Each round may ask many words, and flags tell much of what was done before.
WIDE = """while left or right
  if f
    clear f
    if left
      put left
  elif g and left and right and less
    clear g
    set f
  else
    set g
    if left and new left or right and new right
      set f
    if right
      put right
  if left
    step left
    if left and not f
      put left
    if right and g
      put right
      step right
  else
    step right
    if right
      put right"""


def count_of(model, count):
    return model.compares if count == "compares" else len(model.put)


def excess(walk, count, a, b, left, right):
    return count_of(modelled(walk, left, right), count) - a * len(left) - b * len(right)


def has_pairs(walk):
    return any(part.word == "pairs" for part in (walk[line] for line in range(len(walk))))


def counted(walk, count, stand):
    """What is counted at a stand: done on rows that show it, all words asked one by one."""
    line, flags, heads, left_last, right_last = stand
    if line == len(walk):
        return 0
    part = walk[line]
    if count == "puts":
        return int(part.word == "put" and stand[FORMS[part.side]] != "-")
    if part.word not in ("if", "while"):
        return 0
    many = 0
    for case in part.test.cases:
        truth = True
        for is_not, word in case:
            if word in ("less", "equal", "more"):
                if "-" in (left_last, right_last):
                    return many
                many, told = many + 1, heads == word
            elif word.startswith("new "):
                last = stand[FORMS[word[4:]]]
                if last == "-":
                    return many
                many, told = many + 1, last != "equal"
            elif word in SIDES:
                told = stand[FORMS[word]] != "-"
            else:
                told = word in flags
            if told == is_not:
                truth = False
                break
        if truth:
            break
    return many


def weight(event, after, a, b):
    """The weight of what comes into sight by an event."""
    heads = {"left": a * (after[3] != "-"), "right": b * (after[4] != "-")}
    if event[0] == "step":
        return heads[event[2]]
    if event[0] == "pairs":
        return heads["left"] + heads["right"] + a * (event[3] - 1) + b * (event[4] - 1)
    return 0


def first_weight(stand, a, b):
    return a * (stand[3] != "-") + b * (stand[4] != "-")


def least_heights(walk, count, a, b):
    """The heights, by going over all stands as often as there are stands; None if they still grow then."""
    told = stands(walk)
    ways = {stand: [(counted(walk, count, stand) - weight(event, after, a, b), after) for event, behind in moves(walk, stand)
                    for after in behind] for stand in told}
    found = {stand: counted(walk, count, stand) for stand in told if not ways[stand]}
    for _ in range(len(told) + 1):
        before = dict(found)
        for stand in told:
            reached = [gain + before[after] for gain, after in ways[stand] if after in before]
            if reached:
                found[stand] = max([*reached, *([before[stand]] if stand in before else [])])
        if found == before:
            return tuple((stand, found[stand]) for stand in told)
    return None


class BoundTests(HeadsCase):
    def bounded(self, walk, count, a, b, c=None):
        """Checks all that a Bounded tells, and returns the greatest excess."""
        found = bound(walk, count, a, b)
        self.assertIs(found.__class__, Bounded)
        self.assertIs(bool(found), True)
        self.assertEqual([stand for stand, _ in found.heights], stands(walk))
        self.assertEqual([row.__class__ for row in (found.heights, found.left, found.right)], [tuple] * 3)
        for row in (found.left, found.right):
            self.assertEqual(list(row), sorted(row))
        self.assertEqual(excess(walk, count, a, b, found.left, found.right), found.c)
        heights = dict(found.heights)
        self.assertEqual(max(heights[stand] - first_weight(stand, a, b) for stand in first_stands(walk)), found.c)
        self.assertIs(is_bounded(walk, count, a, b, found.c, found.heights), True)
        self.assertIs(is_bounded(walk, count, a, b, found.c - 1, found.heights), False)
        self.assertIsNone(above(walk, count, a, b, found.c))
        self.assertIsNone(above(walk, count, a, b, found.c + 7))
        for k in (found.c - 1, found.c - 9):
            self.assertGreater(excess(walk, count, a, b, *above(walk, count, a, b, k)), k)
        if c is not None:
            self.assertEqual(found.c, c)
        return found

    def growing(self, walk, count, a, b):
        """Checks all that a Growing tells."""
        found = bound(walk, count, a, b)
        self.assertIs(found.__class__, Growing)
        self.assertIs(bool(found), False)
        self.assertIs(found.ring.__class__, tuple)
        self.assertGreaterEqual(found.gain, 1)
        self.assertLessEqual(set(found.ring), set(stands(walk)))
        gains = {0}
        for stand, after in zip(found.ring, found.ring[1:] + found.ring[:1]):
            here = {counted(walk, count, stand) - weight(event, after, a, b) for event, behind in moves(walk, stand) if after in behind}
            self.assertTrue(here)
            gains = {one + other for one in gains for other in here}
        self.assertIn(found.gain, gains)
        for c in (-60, -1, 0, 1, 60):
            self.rows_above(walk, count, a, b, c)
        return found

    def rows_above(self, walk, count, a, b, c):
        found = above(walk, count, a, b, c)
        self.assertEqual([found.__class__, *[row.__class__ for row in found]], [tuple] * 3)
        for row in found:
            self.assertEqual(list(row), sorted(row))
            self.assertTrue(all(rank.__class__ is int for rank in row))
        self.assertGreater(excess(walk, count, a, b, *found), c)

    def test_usual_walks(self):
        for name, a, b, c in (("sum", 1, 1, 0), ("union", 1, 2, 0), ("both", 1, 2, 0), ("lacks", 1, 2, 0), ("xor", 1, 2, 0),
                              ("join", 1, 2, 0), ("union", 20, 2, 0), ("sum", 2, 3, 0)):
            self.bounded(Walk.sample(name), "compares", a, b, c)
        for name in NAMES:
            for a, b in ((0, 0), (0, 5)):
                self.growing(Walk.sample(name), "compares", a, b)
            if name != "sum":
                self.growing(Walk.sample(name), "compares", 1, 1)
        for name, a, b in (("sum", 1, 1), ("union", 1, 1), ("both", 1, 0), ("both", 0, 1), ("lacks", 1, 0), ("xor", 1, 1)):
            self.bounded(Walk.sample(name), "puts", a, b, 0)
        for name, a, b in (("sum", 0, 1), ("sum", 20, 0), ("union", 1, 0), ("both", 0, 0), ("lacks", 0, 20), ("xor", 0, 1)):
            self.growing(Walk.sample(name), "puts", a, b)

    def test_what_goes_beyond(self):
        walk = Walk.read("if left and right and less or left and right and more\n  if equal or more\n    stop\n  put left\n  put left\n"
                         "put right")
        self.assertEqual(self.bounded(walk, "compares", 0, 0).c, 4)
        self.assertEqual(self.bounded(walk, "compares", 1, 1).c, 2)
        self.assertEqual(self.bounded(walk, "compares", 2, 2).c, 0)
        self.assertEqual(self.bounded(walk, "puts", 0, 0).c, 3)
        self.assertEqual(self.bounded(walk, "puts", 1, 1).c, 1)
        self.assertEqual(self.bounded(walk, "puts", 0, 3).c, 0)
        self.assertEqual(bound(walk, "puts", 0, 3).right, ())

    def test_falls_count_up_to_them(self):
        for text, c in (("equal or less", 2), ("new left and less", 2), ("new left and not less and new right", 3),
                        ("new left and not right and less", 1), ("not left and new right and less", 1), ("new right and not left and more", 1),
                        ("less and new left", 2), ("left and more and more and more", 3), ("not left and more or new left", 1)):
            self.bounded(Walk.read(f"if {text}\n  stop"), "compares", 0, 0, c)
        self.bounded(Walk.read("while new right\n  step right\nif more\n  stop"), "compares", 0, 1, 0)
        # On one row, the word that falls is none.
        walk = Walk.read("if not right and new left and less\n  stop")
        self.bounded(walk, "compares", 0, 0, 1)
        self.bounded(walk, "compares", 0, 20, 1)
        self.bounded(walk, "compares", 1, 0, 0)
        heights = dict(bound(walk, "compares", 0, 0).heights)
        self.assertEqual(heights[0, (), "left", "none", "-"], 1)
        self.assertEqual(heights[0, (), "none", "-", "-"], 0)
        walk = Walk.read("put left\nput left\nput right\nput right")
        self.bounded(walk, "puts", 1, 3, 1)
        self.bounded(walk, "puts", 0, 1, 3)

    def test_weights_of_pairs(self):
        walk = Walk.read("while left and right\n  if less\n    step left\n  elif more\n    step right\n  else\n    pairs left")
        for a, b in ((1, 2), (2, 2), (3, 20)):
            self.bounded(walk, "compares", a, b, 0)
        walk = Walk.read("while left and right and equal\n  pairs right\n  if left and right and less\n    stop")
        self.bounded(walk, "compares", 1, 1, 0)
        self.bounded(walk, "compares", 2, 0, 0)
        self.bounded(walk, "compares", 0, 2, 0)
        self.growing(walk, "compares", 1, 0)

    def test_heights(self):
        short = Walk.read("while left\n  put left\n  step left")
        self.same_kinds([height for (line, *_), height in self.bounded(short, "puts", 1, 5).heights if line == 1],
                        [1] * len([stand for stand in stands(short) if stand[0] == 1]))
        for walk in [*[Walk.sample(name) for name in NAMES], short, Walk.read("stop"), Walk.read("if new left\n  put right")]:
            for count in COUNTS:
                for a, b in ((1, 1), (2, 1), (1, 2), (20, 20), (3, 0)):
                    if count == "puts" and has_pairs(walk):
                        continue
                    wanted = least_heights(walk, count, a, b)
                    if wanted is None:
                        self.growing(walk, count, a, b)
                    else:
                        self.same_kinds(self.bounded(walk, count, a, b).heights, wanted)

    def test_walks_by_chance(self):
        pairs = short_pairs(4)
        chance = Random(3)
        count = {"bounded": 0, "growing": 0, "equal": 0, "ending": 0, "pairs": 0}
        for walk in walks_by_chance(0, 70):
            runs = [(pair, modelled(walk, *pair)) for pair in pairs]
            for counting in COUNTS:
                for a, b in ((1, 1), (chance.randint(0, 3), chance.randint(0, 3)), (chance.randint(0, 20), chance.randint(0, 20))):
                    word = self.one_by_chance(walk, counting, a, b, count)
                    if word != "bounded":
                        continue
                    c = bound(walk, counting, a, b).c
                    worst = max(count_of(model, counting) - a * len(left) - b * len(right) for (left, right), model in runs)
                    self.assertLessEqual(worst, c)
                    count["equal"] += worst == c
        self.assertTrue(all(many > 20 for many in count.values()), count)
        self.assertGreater(count["equal"], count["bounded"] * 9 // 10)

    def one_by_chance(self, walk, counting, a, b, count):
        """Checks what is told of a walk, counts which kind of answer it is, and returns it."""
        try:
            found = bound(walk, counting, a, b)
        except Unfit as error:
            self.assertEqual(error.claim == "ending", not check(walk, "ending"))
            self.assertTrue(error.claim == "ending" or (error.claim == "pairs" and counting == "puts" and has_pairs(walk)))
            count[error.claim] += 1
            return error.claim
        word = "bounded" if found else "growing"
        count[word] += 1
        if found:
            self.bounded(walk, counting, a, b)
        else:
            self.growing(walk, counting, a, b)
        return word

    def test_drawn_rows(self):
        chance = Random(11)
        for walk in [*[Walk.sample(name) for name in NAMES], Walk.read(WIDE), Walk.read(GREATEST_FIT)]:
            for counting in COUNTS:
                for a, b in ((1, 1), (1, 2), (2, 1), (3, 4), (8, 6)):
                    if counting == "puts" and has_pairs(walk) or not bound(walk, counting, a, b):
                        continue
                    c = bound(walk, counting, a, b).c
                    for _ in range(25):
                        left, right = drawn_row(chance, 14, 5), drawn_row(chance, 14, 5)
                        self.assertLessEqual(excess(walk, counting, a, b, left, right), c)

    def test_many_comparisons_in_each_test(self):
        walk = Walk.read("while left and right\n  if equal and new left and new right or less and new left and not more or "
                         "more and not less and not equal\n    step left\n  else\n    step right")
        least = [(a, b) for a in range(9) for b in range(9) if bound(walk, "compares", a, b)]
        self.assertIn((8, 8), least)
        self.assertNotIn((3, 3), least)
        for a in range(9):
            for b in range(9):
                if (a, b) in least:
                    self.bounded(walk, "compares", a, b)
                    self.assertTrue(all((i, j) in least for i in range(a, 9) for j in range(b, 9)))
                else:
                    self.growing(walk, "compares", a, b)

    def test_turned(self):
        for walk in walks_by_chance(100, 130):
            for counting in COUNTS:
                for a, b in ((1, 1), (0, 2), (3, 1), (20, 0)):
                    try:
                        one, other = bound(walk, counting, a, b), bound(-walk, counting, b, a)
                    except Unfit as error:
                        self.raises(Unfit, {"claim": error.claim}, bound, -walk, counting, b, a)
                        continue
                    self.assertEqual(bool(one), bool(other))
                    if one:
                        self.assertEqual((one.c, len(one.heights)), (other.c, len(other.heights)))

    def test_greater_weights(self):
        for walk in [*walks_by_chance(130, 150), *[Walk.sample(name) for name in NAMES]]:
            for counting in COUNTS:
                if not check(walk, "ending") or counting == "puts" and has_pairs(walk):
                    continue
                told = {(a, b): bound(walk, counting, a, b) for a in (0, 1, 2, 20) for b in (0, 1, 2, 20)}
                for (a, b), one in told.items():
                    for (i, j), other in told.items():
                        if one and i >= a and j >= b:
                            self.assertTrue(other)
                            self.assertLessEqual(other.c, one.c)

    def test_greatest(self):
        for text in (WIDE, GREATEST_FIT):
            walk = Walk.read(text)
            for counting in COUNTS:
                for a, b in ((0, 0), (0, 20), (1, 1), (3, 2), (20, 20)):
                    if bound(walk, counting, a, b):
                        self.bounded(walk, counting, a, b)
                    else:
                        self.growing(walk, counting, a, b)
        self.raises(Unfit, {"claim": "ending"}, bound, Walk.read(GREATEST), "compares", 1, 1)

    def test_long_ways_round(self):
        # A ring that gains little, behind many items of great weight.
        walk = Walk.read("\n".join(["if left\n  step left"] * 6) + "\nif left\n  while right\n    if new right\n      set f\n    step right\n"
                                   "    if right\n      step right\n      if right\n        step right")
        self.growing(walk, "compares", 20, 0)
        self.assertEqual(bound(walk, "compares", 20, 1).c, 0)
        self.rows_above(walk, "compares", 20, 0, 60)

    def test_long_bounded_rows(self):
        # Flags count rounds, and each one but the first three has a weight.
        walk = Walk.read("while left\n  if f and g\n    put left\n    put left\n    put left\n    put left\n    stop\n  elif f\n"
                         "    put left\n    set g\n  else\n    put left\n    set f\n  step left")
        self.bounded(walk, "puts", 1, 0, 3)
        self.assertEqual(len(bound(walk, "puts", 1, 0).left), 3)
        self.bounded(walk, "puts", 3, 0, 0)

    def test_examples(self):
        union = Walk.sample("union")
        self.same_kinds(bound(Walk.sample("sum"), "compares", 1, 1).c, 0)
        self.assertIs(bool(bound(union, "compares", 1, 1)), False)
        self.same_kinds((bound(union, "compares", 1, 2).c, bound(union, "puts", 1, 1).c, above(union, "puts", 1, 1, 0)), (0, 0, None))


class ClassTests(HeadsCase):
    def test_made_by_hand(self):
        self.assertEqual((Bounded.__bases__, Growing.__bases__, Bound.__bases__), ((Bound,), (Bound,), (object,)))
        for made in (Bound, Bounded, Growing):
            self.assertIn("__bool__", vars(made))
        found = Bounded(3, (), (1, 2), ())
        self.assertEqual((found.c, found.heights, found.left, found.right), (3, (), (1, 2), ()))
        self.assertIs(bool(found), True)
        self.assertIs(Bound.__bool__(found), True)
        heights = ((), 1)
        found = Bounded(right=(0,), left=(), heights=heights, c=0)
        self.assertEqual((found.c, found.left, found.right), (0, (), (0,)))
        self.assertIs(found.heights, heights)
        for found in (Growing(((0,),), 2), Growing(gain=2, ring=((0,),))):
            self.assertEqual((found.ring, found.gain), (((0,),), 2))
            self.assertIs(bool(found), False)
            self.assertIs(Bound.__bool__(found), False)

    def test_equal_to_nothing_else(self):
        for found in (Bounded(0, (), (), ()), Growing((), 1)):
            for value in (*ODD_VALUES, Walk.read("stop")):
                self.assertIs(found == value, False)
                self.assertIs(value == found, False)


class RefusedTests(HeadsCase):
    def each(self, walk, count):
        return [lambda: bound(walk, count, 1, 1), lambda: above(walk, count, 1, 1, 0), lambda: is_bounded(walk, count, 1, 1, 0, ()),
                lambda: is_bounded(walk, count, 1, 1, 0, None)]

    def test_names(self):
        for text in ("stop", "while left\n  put left", "pairs left", str(Walk.sample("join"))):
            for value in (*ODD_VALUES, "compare", "Puts", " puts", "puts ", ("puts",), ["compares"], Walk.read("stop"), "x" * 6000):
                for deed in self.each(Walk.read(text), value):
                    with self.assertRaises(BadName) as caught:
                        deed()
                    self.assertIs(caught.exception.name, value)

    def test_unfit(self):
        for text in ("while left\n  put left", "while left\n  put left\nif left and right and equal\n  pairs left",
                     "while not f\n  set g", "pairs left\nwhile left\n  set f"):
            for count in COUNTS:
                for deed in self.each(Walk.read(text), count):
                    self.raises(Unfit, {"claim": "ending"}, deed)
        # Pairs that are never done count, too; what is compared may be bounded then.
        for text in (str(Walk.sample("join")), "pairs right", "stop\npairs left", "if f\n  pairs left", "if left and right\n  stop\n"
                     "else\n  while f\n    pairs right"):
            for deed in self.each(Walk.read(text), "puts"):
                self.raises(Unfit, {"claim": "pairs"}, deed)
            for deed in self.each(Walk.read(text), "compares"):
                deed()

    def test_unfit_for_other_claims_only(self):
        for text in ("step left", "while left\n  step left", "put right\nput left"):
            for count in COUNTS:
                for deed in self.each(Walk.read(text), count):
                    deed()


class IsBoundedTests(HeadsCase):
    def shows(self, wanted, walk, count, a, b, c, heights):
        for told in (tuple(heights), list(heights)):
            before = repr(told)
            self.assertIs(is_bounded(walk, count, a, b, c, told), wanted)
            self.assertIs(is_bounded(walk=walk, count=count, a=a, b=b, c=c, heights=told), wanted)
            self.assertEqual(repr(told), before)

    def cases(self):
        found = [("sum", "compares", 1, 1), ("union", "puts", 1, 1), ("join", "compares", 3, 2), ("lacks", "puts", 1, 0)]
        return [(Walk.sample(name), count, a, b) for name, count, a, b in found]

    def test_any_order(self):
        for case in self.cases():
            found = bound(*case)
            heights = found.heights
            for told in (heights, heights[::-1], heights[5:] + heights[:5]):
                self.shows(True, *case, found.c, told)
                self.shows(True, *case, found.c + 1, told)
                self.shows(True, *case, 10 ** 59, told)
                self.shows(False, *case, found.c - 1, told)
            self.shows(False, *case, found.c, ())

    def test_less_or_left_out(self):
        for case in self.cases():
            found = bound(*case)
            heights = found.heights
            for k, (stand, height) in enumerate(heights):
                self.shows(False, *case, found.c + 5, heights[:k] + heights[k + 1:])
                self.shows(False, *case, found.c + 5, [*heights[:k], (stand, height - 1), *heights[k + 1:]])
            for k, (stand, height) in list(enumerate(heights))[::5]:
                for other in ([(stand, height), (stand, height)], [(stand, height), (stand, height + 1)],
                              [[stand, height]], [(list(stand), height)], [(stand, str(height))], [(stand, height > 0)],
                              [(stand, None)], [(stand, height, 0)], [(stand,)], [(height, stand)], [stand],
                              [((len(case[0]) + 1, *stand[1:]), height)], [((*stand, 0), height)],
                              [((stand[0], ("f",), *stand[2:]), height)], [((stand[0], [], *stand[2:]), height)]):
                    self.shows(False, *case, found.c + 5, [*heights[:k], *other, *heights[k + 1:]])
            self.shows(False, *case, found.c, [*heights, heights[3]])

    def test_higher_everywhere(self):
        for case in self.cases():
            found = bound(*case)
            higher = [(stand, height + 4) for stand, height in found.heights]
            self.shows(True, *case, found.c + 4, higher)
            self.shows(False, *case, found.c + 3, higher)
            top = max(height for _, height in found.heights)
            self.shows(False, *case, top + 50, [(stand, top + 50) for stand, _ in found.heights][1:])

    def test_one_higher(self):
        walk = Walk.read("put left\nput left")
        heights = bound(walk, "puts", 0, 0).heights
        self.shows(True, walk, "puts", 0, 0, 2, heights)
        for k, (stand, height) in enumerate(heights):
            higher = [*heights[:k], (stand, height + 1), *heights[k + 1:]]
            self.shows(stand[2] == "none" and stand[0] == 0 or stand[2] == "right" and stand[0] == 0, walk, "puts", 0, 0, 2, higher)

    def test_stands_that_do_not_come_about(self):
        walk = Walk.read("if left\n  put left\nelse\n  put right")
        found = bound(walk, "puts", 1, 1)
        here = dict(found.heights)
        more = (1, (), "left", "below", "-")
        self.assertNotIn(more, here)
        end = (3, (), "left", "equal", "-")
        self.assertIn(end, here)
        self.shows(True, walk, "puts", 1, 1, 1, [*found.heights, (more, 1)])
        self.shows(True, walk, "puts", 1, 1, 1, [*found.heights, (more, 100)])
        self.shows(False, walk, "puts", 1, 1, 1, [*found.heights, (more, 0)])
        end = (3, (), "left", "above", "-")
        self.assertNotIn(end, here)
        self.shows(True, walk, "puts", 1, 1, 1, [*found.heights, (end, 0)])
        self.shows(False, walk, "puts", 1, 1, 1, [*found.heights, (end, -1)])
        fall = (2, (), "left", "below", "-")
        self.assertNotIn(fall, here)
        self.shows(True, walk, "puts", 1, 1, 1, [*found.heights, (fall, 0)])
        self.shows(False, walk, "puts", 1, 1, 1, [*found.heights, (fall, -1)])
        away = (1, (), "less", "above", "above")
        self.shows(False, walk, "puts", 1, 1, 1, [*found.heights, (away, 1), ((3, (), "less", "equal", "above"), 0)])

    def test_fall_counts(self):
        walk = Walk.read("if new left and new left and less\n  stop")
        heights = bound(walk, "compares", 0, 0).heights
        one = (0, (), "left", "none", "-")
        self.assertEqual(dict(heights)[one], 2)
        self.shows(True, walk, "compares", 0, 0, 3, heights)
        self.shows(False, walk, "compares", 0, 0, 3, [(stand, 1 if stand == one else height) for stand, height in heights])

    def test_any_values(self):
        case = self.cases()[0]
        for value in (*ODD_VALUES, bound(*case), case[0], dict(bound(*case).heights), 10 ** 59, "x" * 6000, Item(1), Row([1])):
            self.assertIs(is_bounded(*case, 0, value), False)
            self.shows(False, *case, 0, [*bound(*case).heights, value])

    def test_never_of_growing(self):
        walk = Walk.sample("union")
        for height in (0, 1, 100, 10 ** 59):
            self.shows(False, walk, "compares", 1, 1, 10 ** 59, [(stand, height) for stand in stands(walk)])
        heights = bound(walk, "compares", 1, 2).heights
        self.shows(True, walk, "compares", 1, 2, 0, heights)
        self.shows(False, walk, "compares", 1, 1, 60, heights)


class AboveTests(HeadsCase):
    def test_all_numbers(self):
        walk = Walk.read("if left and right and less\n  put right\n  put right\nif left\n  put left\n  step left\n  if left\n    put left")
        found = bound(walk, "puts", 1, 1)
        self.assertEqual(found.c, 1)
        for c in range(-60, 61):
            rows = above(walk=walk, count="puts", a=1, b=1, c=c)
            self.assertIs(rows is None, c >= 1)
            if rows is not None:
                self.assertGreater(excess(walk, "puts", 1, 1, *rows), c)
        walk = Walk.sample("union")
        for c in range(-60, 61):
            rows = above(walk, "compares", 1, 1, c)
            self.assertGreater(excess(walk, "compares", 1, 1, *rows), c)

    def test_named_arguments(self):
        walk = Walk.sample("sum")
        self.assertEqual(bound(b=1, a=1, count="compares", walk=walk).c, 0)
        self.assertEqual(str(walk), str(Walk.sample("sum")))


if __name__ == "__main__":
    unittest.main()
