import unittest
from itertools import product
from random import Random

from helpers import HeadsCase, named, told
from loops import fit_walks
from pairs import NAMES, drawn_row
from test_fits import UNFIT
from twoheads.books import Book
from twoheads.chains import Chain
from twoheads.checks import check
from twoheads.errors import Behind, Endless, NotNow, TooLarge, TooMany, Unfit, Unlike
from twoheads.fits import need_fit
from twoheads.rows import Row
from twoheads.tallies import Tally, tally_of
from twoheads.walks import Walk

NOT_KEPT = {
    "inside": ("step left", "while left\n  put right\n  put left"),
    "ending": ("while left\n  put left", "while left or right\n  set f\nif left and right and more\n  put left\n  put right"),
    "ordered": ("if left and right\n  put left\n  put right", "while left and right\n  put right\n  step right\n  put left\n  step left"),
}
UNION, LACKS, SUM, JOIN = [Walk.sample(name) for name in ("union", "lacks", "sum", "join")]
LEVEL_ONLY = Walk.read("while left\n  step left")  # Not fit, but good to hand on.


class ChainTests(HeadsCase):
    def test_one_walk(self):
        for name in NAMES:
            walk = Walk.sample(name)
            chain = Chain(first=walk)
            left, right = Row(named("1a", "1b", "2")), Row(named("1c", "3"))
            self.assertEqual(told(chain([left, right])), told(walk(left, right)))
            self.assertEqual(told(chain(rows=(left, right))), told(walk(left, right)))
            self.assertEqual(len(chain), 1)

    def test_names_stay(self):
        rows = [Row(named("1a", "1b", "2a")), Row(named("1c", "3c")), Row(named("2d", "3d", "3e")), Row(named("1f"))]
        self.assertEqual(told(Chain(SUM, SUM, LACKS)(rows)), ["1b", "1c", "2a", "2d", "3c", "3d", "3e"])
        self.assertEqual(told(Chain(UNION, JOIN, SUM)(rows)), ["1f", "2a", "3c", "3c"])
        self.assertEqual(told(Chain(UNION, -LACKS, SUM)(tuple(rows))), ["1f", "3e"])
        self.assertEqual([told(row) for row in rows], [["1a", "1b", "2a"], ["1c", "3c"], ["2d", "3d", "3e"], ["1f"]])

    def test_compared_with_walks(self):
        chance = Random(3)
        names = ("sum", "union", "both", "lacks", "xor", "join")
        for one, two, three in product(names, names, names):
            walks = [Walk.sample(name) for name in (one, two, three)]
            rows = [Row(drawn_row(chance, 7, 4)) for _ in range(4)]
            lists = []
            left = rows[0]
            for walk, right in zip(walks, rows[1:]):
                lists.append(told(walk(left, right)))
                left = Row(walk(left, right))
            chain = Chain(*walks)
            self.assertEqual(told(chain(rows)), lists[-1])
            self.assertEqual([told(items) for items in chain.steps(rows)], lists)
            self.assertEqual([told(items) for items in chain.steps(rows=tuple(rows))], lists)

    def test_longer(self):
        chain = Chain(UNION)
        longer = chain.longer(LACKS)
        self.assertEqual((len(chain), len(longer), len(longer.longer(walk=SUM))), (1, 2, 3))
        rows = [Row([1, 2]), Row([2, 3]), Row([3])]
        self.assertEqual(told(longer(rows)), ["1", "2"])
        self.assertEqual(told(chain(rows[:2])), ["1", "2", "3"])
        for word, texts in NOT_KEPT.items():
            last = chain.longer(Walk.read(texts[0]))
            self.raises(Unfit, {"claim": word}, last.longer, UNION)
            self.assertEqual(len(last), 2)

    def test_refused(self):
        for word, texts in NOT_KEPT.items():
            for text in texts:
                walk = Walk.read(text)
                self.assertEqual(len(Chain(walk)), 1)
                self.assertEqual(len(Chain(UNION, SUM, walk)), 3)
                for walks in ((walk, UNION), (UNION, walk, SUM), (walk, walk), (UNION, LEVEL_ONLY, walk, walk)):
                    self.raises(Unfit, {"claim": word}, Chain, *walks)
        for one, other in product(NOT_KEPT, NOT_KEPT):
            walks = [Walk.read(NOT_KEPT[word][0]) for word in (one, other)]
            self.raises(Unfit, {"claim": one}, Chain, UNION, *walks, UNION)
        # Walks that keep just these three words may be handed on.
        for walk in (LEVEL_ONLY, Walk.read("if left\n  put left\n  put left"), Walk.read("stop"), Walk.read(UNFIT["steady"][0])):
            self.assertTrue(all(check(walk, word) for word in ("inside", "ending", "ordered")))
            self.assertEqual(len(Chain(walk, walk, UNION)), 3)

    def test_numbers_of_rows(self):
        chain = Chain(UNION, LACKS)
        row = Row([1])
        for many in (0, 1, 2, 4, 5, 40):
            for deed in (lambda: chain([row] * many), lambda: chain((row,) * many), lambda: list(chain.steps([row] * many)),
                         lambda: chain.tally([1] * many), lambda: chain.tally((0,) * many)):
                self.raises(NotNow, {"what": many}, deed)
        self.raises(NotNow, {"what": 1}, Chain(Walk.read("step left")), [row])

    def test_too_many(self):
        full = Row([5] * 200)
        self.assertEqual(len(Chain(SUM, LACKS)([full, Row(), Row([5])])), 199)
        self.assertEqual(len(Chain(SUM)([full, full])), 400)
        self.assertEqual(len(Chain(SUM, SUM)([full, Row(), full])), 400)
        self.assertEqual(len(Chain(UNION, JOIN)([full, full, full])), 40000)
        for rows in ([full, Row([6]), Row()], [full, full, full]):
            self.raises(TooMany, {"most": 200}, Chain(SUM, SUM), rows)
            self.raises(TooMany, {"most": 200}, lambda: list(Chain(SUM, SUM).steps(rows)))
        # The last walk would fall, too.
        for text in ("put left\nstep left\nstep right\nstep right", "while left\n  put left"):
            self.raises(TooMany, {"most": 200}, Chain(SUM, Walk.read(text)), [full, Row([5]), Row()])
        self.raises(TooMany, {"most": 200}, Chain(UNION, SUM, SUM, UNION), [full, full, Row([1]), Row(), Row()])
        self.assertEqual(len(Chain(UNION, SUM, LACKS, SUM)([full, full, Row(), full, full])), 200)

    def test_falls(self):
        rows = [Row([1]), Row([1, 2]), Row([3])]
        for text, kind, fields in (("put left\nstep left\nstep left\nstep left", Behind, {"line": 3, "side": "left"}),
                                   ("step right\nput right", Behind, {"line": 1, "side": "right"}),
                                   ("set f\npairs left", Unlike, {"line": 1}), ("while right\n  put left", Endless, {"line": 0})):
            chain = Chain(UNION, Walk.read(text))
            self.raises(kind, fields, chain, rows)
            self.raises(kind, fields, lambda: list(chain.steps(rows)))
            taken = []
            with self.assertRaises(kind):
                for items in chain.steps(rows):
                    taken.append(items)
            self.assertEqual(taken, [])

    def test_lists_are_new(self):
        rows = [Row([1]), Row([2]), Row([3])]
        chain = Chain(SUM, SUM)
        found = []
        for items in chain.steps(rows):
            found.append(told(items))
            items.clear()
        self.assertEqual(found, [["1", "2"], ["1", "2", "3"]])
        chain(rows).clear()
        self.assertEqual(told(chain(rows)), ["1", "2", "3"])
        listed = [UNION, LACKS]
        chain = Chain(*listed)
        listed.clear()
        self.assertEqual(len(chain), 2)


class TallyTests(HeadsCase):
    def test_usual_walks(self):
        for one, two in product(NAMES, NAMES):
            chain = Chain(Walk.sample(one), Walk.sample(two))
            for numbers in ((0, 0, 0), (1, 0, 2), (0, 1, 1), (2, 3, 1), (5, 2, 4)):
                wanted = Tally.usual(two)(Tally.usual(one)(*numbers[:2]), numbers[2])
                self.same_kinds(chain.tally(numbers), wanted)
                self.same_kinds(chain.tally(numbers=list(numbers)), wanted)
                rows = [Row([7] * many) for many in numbers]
                self.assertEqual(len(chain(rows)), wanted)
        self.same_kinds(Chain(JOIN, JOIN)([Row(), Row([1]), Row([1])]), [])
        self.assertEqual(Chain(JOIN, SUM).tally((10 ** 6, 10 ** 6, 10 ** 6)), 10 ** 12 + 10 ** 6)
        self.assertEqual(Chain(UNION).tally((0, 0)), 0)
        self.assertEqual(Chain(SUM, -LACKS, UNION).tally((0, 0, 0, 0)), 0)

    def test_by_chance(self):
        walks = [walk for walk in fit_walks(800, 900) if Book(walk).reach <= 24 and check(walk, "ordered")]
        walks = [walk for walk in walks if tally_of(walk) is not None] + [Walk.sample(name) for name in NAMES]
        chance = Random(8)
        for _ in range(60):
            chain = Chain(*[chance.choice(walks) for _ in range(3)])
            rows = [Row(drawn_row(chance, 4, 2)) for _ in range(4)]
            ranks = [item.rank for item in chain(rows)]
            for value in range(3):
                self.assertEqual(chain.tally([row.number(value) for row in rows]), ranks.count(value))

    def test_refused(self):
        none = Walk.read("if left\n  if not right or not more\n    put left\n    step left")
        large = Walk.read("while left and not right\n  step left\n  if left\n    step left\n    if left\n      step left\n      if left\n"
                          "        step left")
        self.assertIsNone(need_fit(none))
        self.assertEqual((tally_of(none), Book(large).reach), (None, 32))
        numbers = (1, 1, 1, 1)
        for word, texts in UNFIT.items():
            self.raises(Unfit, {"claim": word}, Chain(UNION, SUM, Walk.read(texts[0])).tally, numbers)
        self.raises(Unfit, {"claim": "level"}, Chain(LEVEL_ONLY, SUM, SUM).tally, numbers)
        self.raises(Unfit, {"claim": "tally"}, Chain(UNION, none, large).tally, numbers)
        self.raises(Unfit, {"claim": "tally"}, Chain(none, large, LEVEL_ONLY).tally, numbers)
        self.raises(TooLarge, {"most": 24}, Chain(UNION, large, none).tally, numbers)
        self.raises(TooLarge, {"most": 24}, Chain(large, LEVEL_ONLY, none).tally, numbers)
        self.raises(Unfit, {"claim": "level"}, Chain(UNION, LEVEL_ONLY, large).tally, numbers)
        for chain in (Chain(LEVEL_ONLY, none, large), Chain(large, large, large)):
            self.raises(NotNow, {"what": 3}, chain.tally, (1, 1, 1))


if __name__ == "__main__":
    unittest.main()
