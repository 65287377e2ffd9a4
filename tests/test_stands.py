import unittest
from itertools import product

from forms import all_forms, all_rows, formed, spread
from helpers import ODD_VALUES, HeadsCase
from model import GREATEST, Maker, Model
from twoheads.errors import BadWalk, Behind, Endless, HeadsError, Unlike
from twoheads.items import Item
from twoheads.rows import Row
from twoheads.stands import first_stands, is_stand, moves, stands
from twoheads.walks import Walk

NAMES = ("sum", "union", "both", "lacks", "xor", "join")
FLAGGED = Walk.read("set b\nset a\nif equal\n  put left\nelse\n  step right\nclear a\nstop")


class FirstTests(HeadsCase):
    def test_six(self):
        wanted = [(0, (), "equal", "none", "none"), (0, (), "left", "none", "-"),
                  (0, (), "less", "none", "none"), (0, (), "more", "none", "none"),
                  (0, (), "none", "-", "-"), (0, (), "right", "-", "none")]
        for walk in (Walk.read("stop"), FLAGGED, Walk.read(GREATEST)):
            found = first_stands(walk)
            self.same_kinds(found, wanted)
            found.clear()
            self.same_kinds(first_stands(walk=walk), wanted)


class IsStandTests(HeadsCase):
    def test_all_forms(self):
        words = ("-", "none", "below", "equal", "above")
        heads_words = ("equal", "left", "less", "more", "none", "right")
        forms = set(all_forms())
        self.assertEqual(len(forms), 25)
        for form in product(heads_words, words, words):
            self.assertIs(is_stand(FLAGGED, (3, ("a",), *form)), form in forms, form)

    def test_lines_and_flags(self):
        form = ("less", "none", "none")
        for line in range(8):
            self.assertIs(is_stand(FLAGGED, (line, (), *form)), True)
        for line in (-1, 8, 10 ** 59, True, False, None, "0", (0,), 0j):
            self.assertIs(is_stand(FLAGGED, (line, (), *form)), False)
        for flags in ((), ("a",), ("b",), ("a", "b")):
            self.assertIs(is_stand(FLAGGED, (0, flags, *form)), True)
        for flags in (("b", "a"), ("a", "a"), ("c",), ("a", "c"), ["a"], [], "a", "", None, {},
                      ("a", "b", "b"), (["a"],), (None,), ("a", Row())):
            self.assertIs(is_stand(walk=FLAGGED, value=(0, flags, *form)), False)
        self.assertIs(is_stand(Walk.read("stop"), (1, (), *form)), True)
        self.assertIs(is_stand(Walk.read("stop"), (1, ("a",), *form)), False)

    def test_any_values(self):
        good = (0, ("a",), "less", "none", "none")
        self.assertIs(is_stand(FLAGGED, good), True)
        for value in (*ODD_VALUES, list(good), good[:4], good + ("none",), {0: good}, (good,),
                      FLAGGED, FLAGGED[2], FLAGGED[2].test):
            self.assertIs(is_stand(FLAGGED, value), False)
            for k in range(5):
                if k != 1 or value != ():
                    changed = (*good[:k], value, *good[k + 1:])
                    self.assertIs(is_stand(FLAGGED, changed), False, changed)


class MovesTests(HeadsCase):
    def behind_step(self, line, flags, form, side):
        """All stands behind a step, by trying many ranks for the new head."""
        left, right, last = spread(*form)
        found = set()
        old = left if side == "left" else right
        for new in (None, *range(old, 40)):
            found.add((line, flags, *(formed(new, right, last) if side == "left" else formed(left, new, last))))
        return sorted(found)

    def test_steps_and_puts_at_all_stands(self):
        for side in ("left", "right"):
            walk = Walk.read(f"step {side}\nset f\nput {side}")
            for form in all_forms():
                left, right, last = spread(*form)
                head = left if side == "left" else right
                if head is None:
                    self.same_kinds(list(moves(walk, (0, ("f",), *form))), [(("behind", 0, side), [])])
                    self.same_kinds(list(moves(walk, (2, (), *form))), [(("behind", 2, side), [])])
                    continue
                wanted = self.behind_step(1, ("f",), form, side)
                self.same_kinds(list(moves(walk, (0, ("f",), *form))), [(("step", 0, side), wanted)])
                self.same_kinds(list(moves(walk, (2, (), *form))),
                                [(("put", 2, side), [(3, (), *formed(left, right, head))])])

    def test_pairs_at_all_stands(self):
        behind = [("equal", "below", "below"), ("left", "below", "-"), ("less", "below", "below"),
                  ("more", "below", "below"), ("none", "-", "-"), ("right", "-", "below")]
        for side in ("left", "right"):
            walk = Walk.read(f"set f\npairs {side}")
            for form in all_forms():
                found = list(moves(walk, (1, ("f",), *form)))
                if form[0] in ("right", "none"):
                    self.same_kinds(found, [(("behind", 1, "left"), [])])
                elif form[0] == "left":
                    self.same_kinds(found, [(("behind", 1, "right"), [])])
                elif form[0] != "equal":
                    self.same_kinds(found, [(("unlike", 1), [])])
                else:
                    wanted = [(2, ("f",), *words) for words in behind]
                    self.same_kinds(found, [(("pairs", 1, side, m, n), wanted)
                                            for m, n in ((1, 1), (1, 2), (2, 1))])
                    self.assertIsNot(found[0][1], found[1][1])
                    found[0][1].clear()
                    self.assertEqual(found[1][1], wanted)

    def test_quiet_statements(self):
        walk = Walk.read("while left\n  set b\n  clear a\n  break\nelse\n  stop\nset a")
        form = ("left", "below", "-")
        for stand, event, behind in (
            ((0, (), *form), ("test", 0, True), (1, ())),
            ((0, ("a",), "right", "-", "below"), ("test", 0, False), (4, ("a",))),
            ((1, (), *form), ("set", 1, "b"), (2, ("b",))),
            ((1, ("a",), *form), ("set", 1, "b"), (2, ("a", "b"))),
            ((1, ("a", "b"), *form), ("set", 1, "b"), (2, ("a", "b"))),
            ((5, ("b",), *form), ("set", 5, "a"), (6, ("a", "b"))),
            ((2, ("a", "b"), *form), ("clear", 2, "a"), (3, ("b",))),
            ((2, ("b",), *form), ("clear", 2, "a"), (3, ("b",))),
            ((3, ("a",), *form), ("break", 3), (5, ("a",))),
            ((4, ("a",), *form), ("stop", 4), (6, ("a",))),
        ):
            self.same_kinds(list(moves(walk, stand)), [(event, [(*behind, *stand[2:])])])
        self.assertEqual(list(moves(walk=walk, stand=(6, (), *form))), [])
        self.assertEqual(list(moves(walk, (6, ("a",), "none", "-", "-"))), [])

    def test_words_at_all_stands(self):
        for word in ("left", "right", "less", "equal", "more", "new left", "new right", "f"):
            for text in (word, f"not {word}"):
                walk = Walk.read(f"if {text}\n  set f")
                for flags, form in product(((), ("f",)), all_forms()):
                    left, right, last = spread(*form)
                    side = None
                    if word in ("less", "equal", "more") and left is None or word == "new left" and left is None:
                        side = "left"
                    elif word in ("less", "equal", "more", "new right") and right is None:
                        side = "right"
                    found = list(moves(walk, (0, flags, *form)))
                    if side is not None:
                        self.same_kinds(found, [(("behind", 0, side), [])])
                        continue
                    truth = {"left": left is not None, "right": right is not None, "f": "f" in flags,
                             "new left": last is None or last != left,
                             "new right": last is None or last != right}.get(word, form[0] == word)
                    truth = truth != (text != word)
                    self.same_kinds(found, [(("test", 0, truth), [(1 if truth else 2, flags, *form)])])

    def test_words_that_are_not_asked_do_not_fall(self):
        walk = Walk.read("if right and less or not left or more\n  stop")
        self.same_kinds(list(moves(walk, (0, (), "none", "-", "-"))),
                        [(("test", 0, True), [(1, (), "none", "-", "-")])])
        self.same_kinds(list(moves(walk, (0, (), "left", "none", "-"))), [(("behind", 0, "right"), [])])
        self.same_kinds(list(moves(walk, (0, (), "right", "-", "none"))), [(("behind", 0, "left"), [])])

    def test_example(self):
        short = Walk.read("while left\n  put left\n  step left")
        self.same_kinds(first_stands(short)[0], (0, (), "equal", "none", "none"))
        self.same_kinds(list(moves(short, (2, (), "less", "equal", "below"))), [(("step", 2, "left"), [
            (0, (), "equal", "below", "below"), (0, (), "less", "below", "below"),
            (0, (), "less", "equal", "below"), (0, (), "more", "below", "below"),
            (0, (), "right", "-", "below")])])


class StandsTests(HeadsCase):
    def closed(self, walk):
        found = stands(walk)
        self.assertEqual(found, sorted(set(found)))
        self.assertEqual(first_stands(walk), [stand for stand in found if stand in set(first_stands(walk))])
        reached = set(first_stands(walk))
        for stand in found:
            self.assertIs(is_stand(walk, stand), True)
            for _, behind in moves(walk, stand):
                self.assertEqual(behind, sorted(set(behind)))
                self.assertLessEqual(set(behind), set(found))
                reached |= set(behind)
        self.assertEqual(reached, set(found))
        return found

    def test_usual_walks_come_about(self):
        rows = all_rows(3, 4)
        for name in NAMES:
            walk = Walk.sample(name)
            met = set()
            for left, right in product(rows, rows):
                model = Model(walk.parts, [Item(k) for k in left], [Item(k) for k in right])
                put, fall = model.run()
                self.assertIsNone(fall)
                met |= set(model.moments)
                self.assertEqual([item.rank for item in put],
                                 [item.rank for item in walk(Row(left), Row(right))])
            self.assertEqual(self.closed(walk), sorted(met))

    def test_short_walks_come_about(self):
        rows = all_rows(4, 5)
        for text in ("while left\n  put left\n  step left", "step left\nput right\nstep left",
                     "put right\nstep left\nstep left\npairs right", "put left\nput right\nstep left\nstep right",
                     "if right\n  put right\nwhile left\n  step left\n  set f\n  if f and g\n    set g"):
            walk = Walk.read(text)
            met = set()
            for left, right in product(rows, rows):
                model = Model(walk.parts, [Item(k) for k in left], [Item(k) for k in right])
                model.run()
                met |= set(model.moments)
            self.assertEqual(self.closed(walk), sorted(met))

    def test_runs_go_from_stand_to_stand(self):
        falls = {"behind": 0, "unlike": 0, "endless": 0, None: 0}
        for seed in range(300):
            maker = Maker(seed)
            try:
                walk = Walk(*maker.block(0, False, 4))
            except BadWalk:
                continue
            known = set(self.closed(walk))
            for _ in range(12):
                left, right = [Item(k) for k in maker.row()], [Item(k) for k in maker.row()]
                model = Model(walk.parts, left, right)
                put, fall = model.run()
                falls[fall and fall[0]] += 1
                self.assertLessEqual(set(model.moments), known)
                for one, other in zip(model.moments, model.moments[1:]):
                    self.assertIn(other, [stand for _, behind in moves(walk, one) for stand in behind])
                self.run_alike(walk, left, right, put, fall)
                if fall is not None and fall[0] != "endless":
                    self.assertEqual(list(moves(walk, model.moments[-1])), [(fall, [])])
        self.assertTrue(all(many > 20 for many in falls.values()), falls)

    def run_alike(self, walk, left, right, put, fall):
        """Checks that the walk does what the model does."""
        try:
            found = walk(Row(left), Row(right))
        except HeadsError as error:
            self.assertEqual(vars(error), dict(zip(("line", "side"), fall[1:])))
            self.assertIs(error.__class__, {"behind": Behind, "unlike": Unlike, "endless": Endless}[fall[0]])
        else:
            self.assertIsNone(fall)
            self.assertEqual([id(item) for item in found], [id(item) for item in put])

    def test_lists_belong_to_the_caller(self):
        walk = Walk.sample("union")
        found = stands(walk=walk)
        many = len(found)
        found.clear()
        for _, behind in moves(walk, first_stands(walk)[0]):
            behind.clear()
        self.assertEqual(len(stands(walk)), many)

    def test_greatest(self):
        walk = Walk.read(GREATEST)
        found = self.closed(walk)
        self.assertGreater(len(found), 150)
        maker = Maker(1)
        for _ in range(300):
            left, right = [Item(k) for k in maker.row(8, 5)], [Item(k) for k in maker.row(8, 5)]
            model = Model(walk.parts, left, right)
            put, fall = model.run()
            self.assertLessEqual(set(model.moments), set(found))
            self.run_alike(walk, left, right, put, fall)


if __name__ == "__main__":
    unittest.main()
