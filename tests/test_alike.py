import unittest
from itertools import product
from random import Random

from helpers import ODD_VALUES, HeadsCase
from judge import Blocks, fitting_blocks, is_dense
from loops import fit_walks
from pairs import ALL_LEFT, NAMES, capped, drawn_row, modelled, ranks, short_pairs
from test_books import GREATEST_FIT, TEXTS
from test_fits import UNFIT
from twoheads.alike import alike, shows_alike, shows_parted
from twoheads.books import Book
from twoheads.edits import edited, edits
from twoheads.errors import TooLarge, Unfit
from twoheads.fits import need_fit
from twoheads.items import Item
from twoheads.outcomes import block_length
from twoheads.pairings import rows_of_blocks
from twoheads.rows import Row
from twoheads.verdicts import Alike, Parted
from twoheads.walks import Walk

FIRST = (0, ())
STARTS = [(FIRST, FIRST, False, True), (FIRST, FIRST, True, False), (FIRST, FIRST, True, True)]
# Puts the sum as well, equal right items ahead of the left ones.
OTHER_SUM = ("while left or right\n  if not left or right and not less\n    put right\n    step right\n  else\n"
             "    put left\n    step left")
BOTH_HEADS = "while left and right\n  if less\n    step left\n  elif more\n    step right\n  else\n    "


def turned_entries(table):
    return tuple(sorted(((other, one, left, right) for one, other, left, right in table), key=none_ahead))


def none_ahead(entry):
    return tuple(() if part is None else part for part in entry)


def is_fit(walk):
    try:
        need_fit(walk)
    except Unfit:
        return False
    return True


def fit_pairs(first, behind, most=7):
    """Pairs of fit walks with a small reach: each with those that some of its edits make."""
    found = []
    chance = Random(first)
    for walk in fit_walks(first, behind):
        others = [edited(walk, edit) for edit in chance.sample(edits(walk), most)]
        found += [(walk, other) for other in others if is_fit(other) and larger_reach(walk, other) <= 24]
    return found


def larger_reach(one, other):
    """The reach of two walks, from their books."""
    books = [Book(one), Book(other)]
    cycle = next(k for k in range(1, 10000) if all(k % book.cycle == 0 for book in books))
    return 4 * max(book.lead for book in books) + 8 * cycle


def paired_by_runs(blocks, most):
    """The paired entries that come about in small blocks, done by runs; None if they part the walks."""
    waiting, found = list(STARTS), set(STARTS)
    while waiting:
        *modes, left, right = waiting.pop()
        for block in fitting_blocks((None, left, right), most):
            done = [(0, None) if mode is None else told.done((mode, left, right), block) for mode, told in zip(modes, blocks)]
            if done[0][0] != done[1][0]:
                return None
            after = (done[0][1], done[1][1], *block[2:])
            if after not in found and after[:2] != (None, None):
                found.add(after)
                waiting.append(after)
    return tuple(sorted(found, key=none_ahead))


class AlikeTests(HeadsCase):
    def alike(self, one, other):
        """Checks that two walks are alike, either way round, and returns the table."""
        verdict, turned = alike(one, other), alike(other=one, one=other)
        for told in (verdict, turned):
            self.assertIs(told.__class__, Alike)
            self.assertEqual((bool(told), told.word), (True, "alike"))
        self.same_kinds(turned.paper, turned_entries(verdict.paper))
        self.assertIs(shows_alike(one, other, verdict.paper), True)
        self.assertIs(shows_alike(other, one, list(turned.paper)), True)
        return verdict.paper

    def parted(self, one, other, total=None):
        """Checks that two walks are parted, either way round, and returns the length of the rows."""
        verdict, turned = alike(one, other), alike(other, one)
        for told in (verdict, turned):
            self.assertIs(told.__class__, Parted)
            self.assertEqual((bool(told), told.word, told.paper), (False, "parted", (told.left, told.right)))
            self.assertEqual([row.__class__ for row in told.paper], [tuple, tuple])
            self.assertTrue(is_dense(*told.paper), told.paper)
            self.assertNotEqual(ranks(one, *told.paper), ranks(other, *told.paper))
            self.assertIs(shows_parted(one, other, *told.paper), True)
        found = len(verdict.left + verdict.right)
        self.assertEqual(len(turned.left + turned.right), found)
        if total is not None:
            self.assertEqual(found, total)
        return found

    def test_usual_walks(self):
        for one, other in product(NAMES, NAMES):
            if one == other:
                self.alike(Walk.sample(one), Walk.sample(other))
            else:
                self.parted(Walk.sample(one), Walk.sample(other), 1 if {one, other} & {"lacks"} else None)
        self.parted(Walk.sample("both"), Walk.sample("join"), 3)
        self.parted(Walk.sample("union"), Walk.sample("xor"), 2)
        self.alike(Walk.sample("sum"), -Walk.sample("sum"))
        self.alike(Walk.sample("both"), -Walk.sample("both"))
        self.alike(Walk.sample("join"), -Walk.sample("join"))
        self.parted(Walk.sample("lacks"), -Walk.sample("lacks"), 1)

    def test_small_tables(self):
        self.same_kinds(self.alike(Walk.sample("sum"), Walk.read(OTHER_SUM)), tuple(STARTS))
        one, other = Walk.read("while left and right\n  if less\n    step left\n  else\n    step right"), Walk.read("stop")
        self.same_kinds(self.alike(one, other), ((FIRST, None, False, True), (FIRST, None, True, False), (FIRST, None, True, True),
                                                 *STARTS))
        one = Walk.read("if left\n  set f\n  if not right or not more\n    step left\nwhile right and not left\n  step right")
        self.alike(one, other)

    def test_tables_by_runs(self):
        walks = [*[Walk.sample(name) for name in NAMES], Walk.read(OTHER_SUM), capped(2), capped(3), Walk.read(TEXTS["alone"]),
                 *[Walk.read(TEXTS[name]) for name in ("pairs", "stops", "tails")]]
        told = [(walk, Blocks(walk, 4)) for walk in walks]
        count = {True: 0, False: 0}
        for k, (one, blocks) in enumerate(told):
            for other, other_blocks in told[:k + 1]:
                if larger_reach(one, other) > 24:
                    continue
                wanted = paired_by_runs((blocks, other_blocks), 4)
                count[wanted is None] += 1
                if wanted is None:
                    self.parted(one, other)
                else:
                    self.same_kinds(self.alike(one, other), wanted)
        self.assertTrue(all(many > 12 for many in count.values()), count)

    def test_tables_by_chance(self):
        count = 0
        for one, other in fit_pairs(2000, 2030, 4):
            if alike(one, other):
                count += 1
                self.same_kinds(self.alike(one, other), paired_by_runs((Blocks(one, 5), Blocks(other, 5)), 5))
        self.assertGreater(count, 5)

    def test_compared_with_all_short_rows(self):
        pairs = short_pairs(4)
        count = {"alike": 0, "parted": 0}
        for one, other in fit_pairs(0, 90):
            least = next((len(left) + len(right) for left, right in pairs
                          if ranks(one, left, right) != ranks(other, left, right)), None)
            verdict = alike(one, other)
            count[verdict.word] += 1
            if verdict:
                self.assertIsNone(least)
                self.alike(one, other)
            else:
                total = self.parted(one, other)
                self.assertEqual(min(total, 5), least or 5, (str(one), str(other), verdict.paper))
        self.assertTrue(all(many > 25 for many in count.values()), count)

    def test_compared_with_long_rows(self):
        chance = Random(5)
        for one, other in fit_pairs(160, 220):
            if alike(one, other):
                for _ in range(10):
                    left, right = drawn_row(chance, 45, 3), drawn_row(chance, 45, 3)
                    self.assertEqual(ranks(one, left, right), ranks(other, left, right))

    def test_parted_behind_many_copies(self):
        walks = [Walk.read(ALL_LEFT), *[capped(most) for most in (1, 2, 3, 4)]]
        for k, one in enumerate(walks):
            for j, other in enumerate(walks):
                if k == j:
                    self.alike(one, other)
                    continue
                least = min(number for number in (k, j) if number) + 1
                self.parted(one, other, least)
                self.same_kinds(alike(one, other).paper, ((0,) * least, ()))
                self.same_kinds(alike(-one, -other).paper, ((), (0,) * least))

    def test_parted_behind_copies_on_both_sides(self):
        # Equal heads are put once for each of the first two, or first three, pairs of them.
        text = ("while left and right\n  if less\n    clear f\n    clear g\n    step left\n  elif more\n    clear f\n    clear g\n"
                "    step right\n  else\n    if not f\n      set f\n      put left\n    elif not g\n      set g\n      put left\n"
                "{}    step left\n    step right")
        one, other = Walk.read(text.format("")), Walk.read(text.format("    else\n      put left\n"))
        self.parted(one, other, 6)
        self.same_kinds(alike(one, other).paper, ((0, 0, 0), (0, 0, 0)))

    def test_parted_behind_several_values(self):
        # The second value, or the third one, is not put.
        values = "while left\n  if right and more\n    step right\n  else\n    if {}\n      put left\n    {}\n    step left"
        count = "if f\n      set g\n    set f"
        one, other = Walk.read(values.format("not f", count)), Walk.read(values.format("not g", count))
        self.parted(one, other, 2)
        third = Walk.read("while left\n  if right and more\n    step right\n  else\n    put left\n    step left\n    if f and g\n"
                          "      stop\n    elif f\n      set g\n    else\n      set f")
        self.parted(Walk.read(ALL_LEFT), third, 4)

    def test_more_behind_the_parting_block(self):
        # The left items are put only if the right row has greater ones.
        one = Walk.read("while left\n  if right and more\n    step right\n  else\n    if right and less\n      put left\n    step left")
        other = Walk.read("while left\n  if right and more\n    step right\n  else\n    step left")
        self.parted(one, other, 2)
        self.same_kinds(alike(one, other).paper, ((0,), (1,)))
        self.same_kinds(alike(-other, -one).paper, ((1,), (0,)))
        tail = "step left\n    step right\n    if left and right and {}\n      put left"
        self.parted(Walk.read(BOTH_HEADS + tail.format("less")), Walk.read(BOTH_HEADS + tail.format("f")), 4)

    def test_more_behind_a_second_value(self):
        text = ("while left\n  if right and more\n    step right\n  else\n    if f and new left and right and less\n      put left\n"
                "    put left\n    step left\n    set f")
        self.parted(Walk.read(text), Walk.read(ALL_LEFT), 3)
        self.same_kinds(alike(Walk.read(ALL_LEFT), Walk.read(text)).paper, ((0, 1), (2,)))
        self.same_kinds(alike(-Walk.read(text), -Walk.read(ALL_LEFT)).paper, ((2,), (0, 1)))

    def test_lengths_of_blocks(self):
        for entry in STARTS:
            for block in fitting_blocks((None, *entry[2:]), 4):
                self.assertEqual(block_length(block), len(sum(rows_of_blocks([block]), ())))
        self.same_kinds(rows_of_blocks([(1, 2, True, True), (0, 1, True, False), (3, 0, True, False)]),
                        ((0, 2, 2, 2, 3), (0, 0, 1)))

    def test_same_meaning(self):
        for name in NAMES:
            walk = Walk.sample(name)
            text = str(walk)
            indented = "\n".join("  " + row for row in text.split("\n"))
            self.alike(walk, Walk.read(f"if left or right\n{indented}"))
            self.alike(walk, Walk.read(text + "\nset f"))
            self.alike(walk, Walk.read(text + "\nif f\n  set f"))
            self.alike(walk, Walk.read("set f\n" + text))
            self.alike(walk, Walk.read(text.replace("if less", "if less or less").replace("while left\n", "while left or left\n")))
        self.alike(Walk.sample("both"), Walk.read("while left and right\n  if equal\n    put left\n    step right\n    step left\n"
                                                  "  elif more\n    step right\n  else\n    step left"))

    def test_relation(self):
        walks = [*[Walk.sample(name) for name in NAMES], Walk.read(OTHER_SUM), *[walk for pair in fit_pairs(300, 400, 4) for walk in pair]]
        walks = [walk for walk in walks if Book(walk).cycle == 1 and Book(walk).reach <= 12][:24]
        self.assertGreater(len(walks), 15)
        told = {(k, j): bool(alike(one, other)) for k, one in enumerate(walks) for j, other in enumerate(walks)}
        several = 0
        for k, j in told:
            self.assertEqual(told[k, j], told[j, k])
            self.assertTrue(told[k, k])
            for i in range(len(walks)):
                self.assertNotEqual(told[k, j] + told[j, i] + told[k, i], 2)
                several += told[k, j] and told[j, i] and len({k, j, i}) == 3
        self.assertGreater(several, 10)

    def test_greatest(self):
        walk = Walk.read(GREATEST_FIT)
        self.assertGreater(len(self.alike(walk, walk)), 10)
        self.parted(walk, -walk)
        text = GREATEST_FIT.replace("  clear g\n  put right\n  step right", "  put right\n  step right\n  clear g")
        self.alike(walk, Walk.read(text))

    def test_many_modes(self):
        text = ("while left and right\n  if less\n    step left\n    set f\n    if g\n      clear g\n    else\n      set g\n"
                "  elif more\n    step right\n    clear f\n    if left\n      set g\n  else\n    {} left\n    step left\n"
                "    if f\n      clear f\n    step right\n    clear g\nwhile left\n  step left\nwhile right\n  step right")
        one, other = Walk.read(text.format("put").replace("    if f\n      clear f\n", "")), Walk.sample("both")
        self.assertGreater(len(self.alike(one, other)), 20)
        self.assertGreater(len(self.alike(one, Walk.read(text.format("put")[:-len("\nwhile right\n  step right")]))), 20)

    def test_verdicts_are_equal(self):
        one, other = Walk.sample("sum"), Walk.sample("union")
        self.assertEqual(alike(one, one), alike(Walk.sample("sum"), one))
        self.assertEqual(alike(one, other), alike(one, other))
        self.assertEqual((str(one), str(other)), (str(Walk.sample("sum")), str(Walk.sample("union"))))

    def test_examples(self):
        self.same_kinds(alike(Walk.sample("sum"), Walk.sample("union")).paper, ((0,), (0,)))
        other = Walk.read("while left or right\n  if not left or right and not less\n    put right\n    step right\n  else\n"
                          "    put left\n    step left")
        self.assertIs(bool(alike(Walk.sample("sum"), other)), True)


class RefusedTests(HeadsCase):
    def each(self, one, other):
        """Both calls that refuse walks."""
        return [lambda: alike(one, other), lambda: shows_alike(one, other, ()), lambda: shows_alike(one, other, None)]

    def test_unfit(self):
        good = Walk.sample("union")
        for word, texts in UNFIT.items():
            walk = Walk.read(texts[0])
            for deed in [*self.each(walk, good), *self.each(good, walk), *self.each(walk, walk)]:
                self.raises(Unfit, {"claim": word}, deed)
        for word, texts in UNFIT.items():
            for other in UNFIT.values():
                for deed in self.each(Walk.read(texts[0]), Walk.read(other[0])):
                    self.raises(Unfit, {"claim": word}, deed)

    def test_too_large(self):
        ring = "while left and not right\n  step left"
        texts = [ring, ring + "\n  if left\n    step left", ring + "\n  if left\n    step left\n    if left\n      step left"]
        starts = [capped(3), Walk.read("if left and not right\n  step left" + "\n  if left\n    step left" * 3)]
        walks = {8: Walk.read(texts[0]), 16: Walk.read(texts[1]), 24: Walk.read(texts[2])}
        for reach, walk in walks.items():
            self.assertEqual(Book(walk).reach, reach)
        self.assertEqual([Book(walk).reach for walk in starts], [16, 24])
        stop = Walk.read("stop")
        for one, other, is_large in ((24, 8, False), (8, 24, False), (24, 16, True), (16, 24, True), (16, 8, False), (24, 24, False)):
            for deed in self.each(walks[one], walks[other])[:2]:
                if is_large:
                    self.raises(TooLarge, {"most": 24}, deed)
                else:
                    deed()
        # The greater start of the one, and the ring of the other one.
        for walk, other, is_large in ((starts[0], walks[16], False), (starts[1], walks[16], True), (walks[16], starts[1], True),
                                      (starts[0], walks[24], True), (starts[1], stop, False), (starts[1], starts[0], False)):
            for deed in self.each(walk, other)[:2]:
                if is_large:
                    self.raises(TooLarge, {"most": 24}, deed)
                else:
                    deed()
        large = Walk.read(texts[2] + "\n      if left\n        step left")
        self.assertEqual(Book(large).reach, 32)
        for deed in [*self.each(large, stop), *self.each(stop, large), *self.each(large, large)]:
            self.raises(TooLarge, {"most": 24}, deed)
        for word, texts in UNFIT.items():
            for deed in [*self.each(large, Walk.read(texts[0])), *self.each(Walk.read(texts[0]), large)]:
                self.raises(Unfit, {"claim": word}, deed)


class ShowsAlikeTests(HeadsCase):
    def shows(self, wanted, one, other, table):
        for told in (tuple(table), list(table)):
            before = repr(told)
            self.assertIs(shows_alike(one, other, told), wanted, table)
            self.assertIs(shows_alike(one=one, other=other, table=told), wanted)
            self.assertEqual(repr(told), before)

    def walks(self):
        stop = Walk.read("while left and right\n  if less\n    step left\n  else\n    step right")
        return [(Walk.sample("sum"), Walk.read(OTHER_SUM)), (Walk.sample("union"), Walk.sample("union")),
                (stop, Walk.read("stop")), (Walk.read("stop"), -stop), (capped(3), capped(3)), (Walk.sample("join"), -Walk.sample("join"))]

    def test_any_order(self):
        for one, other in self.walks():
            table = alike(one, other).paper
            self.shows(True, one, other, table)
            self.shows(True, one, other, table[::-1])
            self.shows(True, one, other, table[2:] + table[:4])
            self.shows(False, one, other, ())
            for k in range(len(table)):
                self.shows(False, one, other, table[:k] + table[k + 1:])

    def test_any_values(self):
        one, other = self.walks()[0]
        table = alike(one, other).paper
        for value in (*ODD_VALUES, alike(one, other), one, {entry: True for entry in table}, "x" * 6000, 10 ** 59, table[0]):
            self.assertIs(shows_alike(one, other, value), False)
        for value in ODD_VALUES:
            self.shows(False, one, other, [*table, value])
            self.shows(False, one, other, [value, *table])
            for k in range(4):
                if value != () and not (k > 1 and isinstance(value, bool)) and not (k < 2 and value is None):
                    self.shows(False, one, other, [*table, (*table[2][:k], value, *table[2][k + 1:])])

    def test_entries_of_another_kind(self):
        one, other = Walk.read("if f and g\n  stop\n" + str(Walk.sample("sum"))), Walk.read("if f\n  set f\n" + OTHER_SUM)
        table = alike(one, other).paper
        self.assertEqual((one.flags, other.flags, len(one), len(other)), (("f", "g"), ("f",), 8, 8))
        self.shows(True, one, other, table)
        right = [((2, ("f", "g")), (3, ("f",))), ((2, ("f",)), (0, ())), ((2, ("g",)), (2, ()))]
        self.shows(True, one, other, [*table, *[(*modes, True, True) for modes in right],
                                      *[((2, ("f", "g")), (2, ("f",)), *ahead) for ahead in ((True, True), (False, True), (True, False))],
                                      *[((2, flags), (2, behind), *ahead) for flags in (("f",), ("g",), ("f", "g")) for behind in ((), ("f",))
                                        for ahead in ((True, True), (False, True), (True, False))]])
        good = table[-1]
        self.assertEqual(good, ((2, ()), (2, ()), True, True))
        mode, other_mode = good[:2]
        for wrong in ([2, ()], (2, []), (2,), (2, (), 0), (True, ()), (2, ["f"]), (2, "f"), (2, ("f", "f")), (2, ("g", "f")), (2, ("h",)),
                      (8, ()), (9, ()), (-1, ()), (10 ** 59, ()), ("2", ()), (None, ()), (2, None), (2, (None,)), (2, (True,)),
                      ((2, ()),), 2, (), ((), 2), (2, (("f",),)), (2, (["f"],))):
            self.shows(False, one, other, [*table, (wrong, other_mode, True, True)])
            self.shows(False, one, other, [*table, (mode, wrong, True, True)])
        self.shows(False, one, other, [*table, (mode, (2, ("g",)), True, True)])
        for entry in (list(good), good[:3], (*good, True), (mode, other_mode, 1, True), (mode, other_mode, True, 1),
                      (mode, other_mode, 1, 1), (mode, other_mode, 1, 0), (mode, other_mode, None, True), (mode, other_mode, "left", True),
                      (good,), good[::-1], (True, True, mode, other_mode)):
            self.shows(False, one, other, [*table, entry])
            self.shows(False, one, other, [*table[:-1], entry])

    def test_two_nones_and_no_items(self):
        one, other = self.walks()[2]
        table = alike(one, other).paper
        self.assertEqual(table[0], (FIRST, None, False, True))
        self.shows(True, one, other, table)
        for left, right in product((True, False), repeat=2):
            self.shows(False, one, other, [*table, (None, None, left, right)])
        for modes in ((FIRST, FIRST), (FIRST, None), (None, FIRST)):
            self.shows(False, one, other, [*table, (*modes, False, False)])
        # The line behind the last one is none, though nothing is put there either.
        for modes in (((len(one), ()), None), (None, (len(other), ()))):
            self.shows(False, one, other, [*table, (*modes, True, True)])
        self.shows(True, one, other, [*table, (None, FIRST, True, False)])
        self.shows(True, one, other, [*table, (None, (0, ()), True, False), (None, (0, ()), False, True), (None, (0, ()), True, True)])
        self.shows(True, one, other, [*table, ((1, ()), None, True, True)])
        self.shows(False, one, other, [*table, ((1, ()), None, True, False)])

    def test_wrong_walks_from_more_entries(self):
        # Flag f never is set: what is done with it does not come about.
        for act, is_right in (("put left", False), ("step right", False), ("step left", False), ("pairs left", False),
                              ("while not g\n    set f", False), ("set g", True), ("stop", False), ("while g\n    put left", True)):
            text = f"if f\n  {act}\n" + str(Walk.sample("lacks"))
            one, other = Walk.read(text), Walk.sample("lacks")
            table = alike(one, other).paper
            here = (0, ("f",))
            self.shows(True, one, other, table)
            start = len(one) - len(other)
            flags = ("f", "g") if act == "set g" else ("f",)
            more = [((line, told), FIRST, left, right) for line, told in ((start, ("f",)), (start, flags), (0, ("f",)))
                    for left, right in ((True, True), (True, False), (False, True))]
            # The walk has ended where right items alone are ahead, and the other one, too.
            self.shows(is_right, one, other, [*table, *more])
            self.shows(is_right, other, one, [(two, told, left, right) for told, two, left, right in [*table, *more]])
            self.assertNotIn(here, [entry[0] for entry in table])

    def test_what_goes_wrong_only_in_some_blocks(self):
        # From line 1 on, so many left items are stepped at once; then it goes on as from the first line.
        base = str(Walk.read("while left\n  if right and more\n    step right\n  else\n    step left"))
        for many in (1, 2, 3, 8):
            one = Walk.read("if f\n" + "\n".join(["  if not right or less"] + ["    step left"] * many) + "\n" + base)
            other = Walk.read("stop")
            table = alike(one, other).paper
            self.assertEqual(larger_reach(one, other), 8)
            more = [((2 + k, ("f",)), None, True, right) for k in range(many) for right in (True, False)]
            behind = [((2 + many, ("f",)), None, left, right) for left, right in ((True, True), (False, True), (True, False))]
            starts = [((2 + many, ()), None, left, right) for left, right in ((True, True), (False, True), (True, False))]
            self.shows(True, one, other, [*table, *starts])
            self.shows(True, one, other, [*table, *starts, *behind])
            self.shows(False, one, other, [*table, *starts, *behind, *more])

    def test_items_of_another_value(self):
        """Nothing but a put or step of a greater item is wrong, and only where both rows are ahead."""
        base = "while left\n  if right and more\n    step right\n  else\n    step left"
        told = {act: Walk.read(f"if f\n  if left and right and less\n    {act}\n{base}") for act in ("put left", "put right", "step left",
                                                                                               "step right", "set f", "pairs left")}
        for act, other_act, is_right in (("put left", "put left", True), ("put right", "put left", False), ("put right", "put right", False),
                                         ("put left", "put right", False), ("set f", "set f", True), ("step left", "set f", True),
                                         ("step right", "set f", False), ("set f", "step right", False), ("pairs left", "set f", False)):
            one, other = told[act], told[other_act]
            behind = [((line, flags), (other_line, other_flags), left, right) for line in (0, 3) for other_line in (0, 3)
                      for flags in ((), ("f",)) for other_flags in ((), ("f",)) for left, right in ((True, True), (True, False), (False, True))
                      if (line == 3 or not flags) and (other_line == 3 or not other_flags)]
            table = [*alike(one, other).paper, *behind]
            self.shows(True, one, other, table)
            for left, right in ((True, False), (False, True)):
                self.shows(True, one, other, [*table, ((1, ()), (1, ()), left, right)])
            self.shows(is_right, one, other, [*table, ((1, ()), (1, ()), True, True)])
            self.shows(is_right, -other, -one, [(two, mode, right, left) for mode, two, left, right in [*table, ((1, ()), (1, ()), True, True)]])

    def test_blocks_up_to_the_reach(self):
        """An entry that goes wrong only from so many copies on is right just if these are more than the reach."""
        base = "while left\n  if right and more\n    step right\n  else\n    step left"
        for act in ("put left", "step right", "put right", "while left\n    set f"):
            for many in range(2, 10 if act != "while left\n    set f" else 9):
                guards = "  if left and not new left\n    step left\n" * (many - 2)
                last = "  if left and not new left\n" + "\n".join("  " + row for row in ("  " + act).split("\n")) + "\n"
                one = Walk.read("if f\n  put left\n  step left\n" + guards + last + base)
                other = Walk.read("if f\n  put left\n" + base)
                self.assertEqual(larger_reach(one, other), 8)
                lines = [*range(3, 3 + 2 * many - 2, 2), len(one) - 4]
                table = [*alike(one, other).paper, *[((line, ()), (2, ()), True, False) for line in lines]]
                self.shows(True, one, other, table)
                wrong = ((1, ()), (1, ()), True, False)
                self.shows(many > 8, one, other, [*table, wrong])
                self.shows(many > 8, -other, -one, [(two, told, right, left) for told, two, left, right in [*table, wrong]])

    def test_another_number(self):
        one = Walk.read("if f\n  if not right or not more\n    put left\n" + str(Walk.sample("lacks")))
        other = Walk.sample("lacks")
        table = alike(one, other).paper
        self.shows(False, one, other, [*table, ((1, ()), FIRST, True, False)])
        self.shows(True, one, other, [*table, ((3, ()), FIRST, True, False)])
        self.shows(False, one, other, [*table, ((3, ()), None, True, False)])
        self.shows(False, one, other, [*table, (None, FIRST, True, False)])
        self.shows(True, one, other, [*table, (None, FIRST, False, True)])

    def test_never_of_walks_that_part(self):
        count = 0
        for one, other in fit_pairs(400, 470):
            if not alike(one, other):
                entries = [(mode, other_mode, *ahead) for mode, *_ in Book(one).entries() for other_mode, *_ in Book(other).entries()
                           for ahead in ((True, True), (True, False), (False, True))]
                self.shows(False, one, other, sorted(set(entries)))
                self.shows(False, one, other, STARTS)
                count += 1
        self.assertGreater(count, 15)

    def test_by_runs_from_any_mode(self):
        """Single entries behind the table are right just if all their blocks, done by runs, lead on to it."""
        count = {True: 0, False: 0}
        for one, other in [pair for pair in fit_pairs(500, 560, 4) if larger_reach(*pair) <= 12 and alike(*pair)][:6]:
            table = alike(one, other).paper
            reach = larger_reach(one, other)
            for line, flags in product(range(len(one)), [(), one.flags[:1], one.flags]):
                for ahead in ((True, True), (True, False), (False, True)):
                    entry = ((line, flags), FIRST, *ahead)
                    if entry not in table:
                        wanted = self.leads_on(one, other, entry, {*table, entry}, reach)
                        count[wanted] += 1
                        self.assertIs(shows_alike(one, other, [*table, entry]), wanted, (str(one), str(other), entry))
        self.assertTrue(all(many > 10 for many in count.values()), count)

    def leads_on(self, one, other, entry, entries, reach):
        mode, other_mode, *ahead = entry
        for block in fitting_blocks((None, *ahead), reach):
            done = [block_by_model(one, mode, block), block_by_model(other, other_mode, block)]
            if None in done or done[0][0] != done[1][0]:
                return False
            after = (done[0][1], done[1][1], *block[2:])
            if after[:2] != (None, None) and after not in entries:
                return False
        return True


def block_by_model(walk, mode, block):
    """What comes of a block that is done from any mode, statement by statement; None if it is wrong."""
    m, n, more_left, more_right = block
    rows = {"left": [0] * m + [1] * more_left, "right": [0] * n + [1] * more_right}
    (line, flags), many, met = mode, 0, set()
    flags = set(flags)
    while 0 in rows["left"] or 0 in rows["right"]:
        moment = (line, tuple(sorted(flags)), many > 0)
        if moment in met:
            return None
        met.add(moment)
        if line == len(walk):
            return many, None
        part = walk[line]
        if part.word in ("if", "while"):
            heads = {side: rows[side][0] if rows[side] else None for side in rows}
            truth = seen(part.test, heads, flags, many)
            if truth is None:
                return None
            line = walk.jumps[line][0 if truth else 1]
            continue
        if part.word == "pairs":
            if not rows["left"] or not rows["right"] or rows["left"][0] != rows["right"][0]:
                return None
            many += rows["left"].count(0) * rows["right"].count(0)
            rows = {side: [rank for rank in row if rank] for side, row in rows.items()}
            met.clear()
        elif part.word in ("put", "step"):
            if not rows[part.side] or rows[part.side][0]:
                return None
            many += part.word == "put"
            if part.word == "step":
                rows[part.side].pop(0)
                met.clear()
        elif part.word == "set":
            flags.add(part.flag)
        elif part.word == "clear":
            flags.discard(part.flag)
        line = walk.jumps[line][0]
    if line == len(walk) or not (rows["left"] or rows["right"]):
        return many, None
    return many, (line, tuple(sorted(flags)))


def seen(test, heads, flags, many):
    """Whether a test is true, None if it falls; the last item has the rank 0 if anything was put."""
    for case in test.cases:
        truth = True
        for is_not, word in case:
            needed = {"left", "right"} if word in ("less", "equal", "more") else {word[4:]} if word.startswith("new ") else set()
            if any(heads[side] is None for side in needed):
                return None
            told = {"left": heads["left"] is not None, "right": heads["right"] is not None}.get(word, word in flags)
            if len(needed) == 2:
                told = {"less": heads["left"] < heads["right"], "equal": heads["left"] == heads["right"],
                        "more": heads["left"] > heads["right"]}[word]
            elif needed:
                told = many == 0 or heads[word[4:]] != 0
            if told == is_not:
                truth = False
                break
        if truth:
            return True
    return False


class ShowsPartedTests(HeadsCase):
    def test_by_runs(self):
        chance = Random(7)
        walks = [*[Walk.sample(name) for name in NAMES], Walk.read(OTHER_SUM), Walk.read("while left\n  put left\n  step left"),
                 Walk.read("step left"), Walk.read("while left\n  put left"), Walk.read("pairs left"), Walk.read("put right")]
        count = {True: 0, False: 0, None: 0}
        for one, other in product(walks, walks):
            for _ in range(6):
                left, right = drawn_row(chance, 4, 3), drawn_row(chance, 4, 3)
                runs = [modelled(walk, left, right) for walk in (one, other)]
                falls = any(run.events and run.events[-1][0] in ("behind", "unlike", "endless") for run in runs)
                wanted = not falls and [item.rank for item in runs[0].put] != [item.rank for item in runs[1].put]
                count[None if falls else wanted] += 1
                self.assertIs(shows_parted(one, other, left, tuple(right)), wanted)
                self.assertIs(shows_parted(one=other, other=one, left=tuple(left), right=right), wanted)
        self.assertTrue(all(many > 50 for many in count.values()), count)

    def test_any_values(self):
        one, other = Walk.sample("sum"), Walk.sample("union")
        self.assertIs(shows_parted(one, other, [0], (0,)), True)
        self.assertIs(shows_parted(one, other, [-(10 ** 30) + 1, 10 ** 30 - 1], (10 ** 30 - 1,)), True)
        wrong = (*[value for value in ODD_VALUES if value not in ((), [], (1,), [1])], [[0]], [None], [True], [False], [0, False], ["0"], [1, 0],
                 (0, 0, -1), [10 ** 30], (-(10 ** 30), 0), {0: 0}, Row(), Row([0]), Item(0), [Item(0)], [(0,)], "00")
        for value in wrong:
            self.assertIs(shows_parted(one, other, value, (0,)), False)
            self.assertIs(shows_parted(one, other, [0], value), False)
            self.assertIs(shows_parted(one, other, value, value), False)

    def test_long_rows(self):
        one, other = Walk.sample("sum"), Walk.sample("union")
        left, right = list(range(0, 1200, 2)), list(range(1, 1001, 2))
        self.assertIs(shows_parted(one, other, left, right), False)
        self.assertIs(shows_parted(one, other, left, [*right, 1198]), True)
        self.assertIs(shows_parted(one, other, [3] * 500, [4] * 500), False)

    def test_any_two_walks(self):
        unfit = [Walk.read(text) for text in ("put left", "while left\n  step left", "while left\n  put left")]
        self.assertIs(shows_parted(unfit[0], unfit[1], (0,), ()), True)
        self.assertIs(shows_parted(unfit[0], unfit[1], (), ()), False)
        self.assertIs(shows_parted(unfit[1], unfit[2], (0,), ()), False)
        self.assertIs(shows_parted(unfit[1], unfit[2], (), (0,)), False)
        # Only ranks count, not which of two equal items is put.
        self.assertIs(shows_parted(Walk.read("put left"), Walk.read("put right"), (0,), (0,)), False)
        self.assertIs(shows_parted(Walk.read("put left"), Walk.read("put right"), (0,), (1,)), True)


if __name__ == "__main__":
    unittest.main()
