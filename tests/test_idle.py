import unittest

from helpers import HeadsCase
from judge import is_dense
from loops import walks_by_chance
from model import GREATEST
from pairs import NAMES, modelled, short_pairs
from test_books import GREATEST_FIT
from test_bounds import WIDE
from twoheads.idle import idle, outcome_rows
from twoheads.stands import stands
from twoheads.walks import Walk

ROUNDS = ("while left\n  step left\n  if left\n    step left\n    if left\n      step left\n  if f and g\n    put right\n"
          "  elif f\n    set g\n    clear f\n  elif g\n    set f\n  else\n    set f")


def is_test(walk, line):
    return walk[line].word in ("if", "while")


def outcomes_of(walk, left, right):
    """All pairs (line, truth) that come about in a run, and (line, None) for the lines."""
    model = modelled(walk, left, right)
    return {(stand[0], None) for stand in model.moments} | {event[1:] for event in model.events if event[0] == "test"}


class IdleTests(HeadsCase):
    def idles(self, text, *wanted):
        walk = Walk.read(text)
        self.same_kinds(idle(walk=walk), list(wanted))
        self.assertEqual(idle(-walk), list(wanted))

    def test_usual_walks(self):
        for name in NAMES:
            self.assertEqual(idle(Walk.sample(name)), [])

    def test_dead(self):
        self.idles("stop\nput left\nif left\n  put right", (1, "dead"), (2, "dead"), (3, "dead"))
        self.idles("while left\n  break\n  step left\nstep right", (2, "dead"))
        self.idles("if f\n  step left", (0, "false"), (1, "dead"))
        self.idles("while left or right or not left\n  set f\nstop", (0, "true"), (2, "dead"))
        self.idles("put left\nput right")
        self.idles("if left\n  step left\nelif left and right\n  put right\nelif right\n  stop\nelse\n  set f",
                   (2, "false"), (3, "dead"))
        self.idles("while left\n  step left\nelse\n  if left\n    set f\n  else\n    clear f", (2, "false"), (3, "dead"))

    def test_always(self):
        self.idles("if left or not left\n  set f\nif f\n  clear f\nif f\n  stop", (0, "true"), (2, "true"), (4, "false"), (5, "dead"))
        self.idles("if left and right and less\n  step left\n  put right\n  if new left\n    stop\n  if not new right\n    stop",
                   (5, "true"))
        self.idles("while left and right and equal\n  step left\n  if left and right and more\n    step right\n  elif left and right "
                   "and less\n    stop\n  else\n    break", (4, "false"), (5, "dead"))

    def test_tests_that_fall(self):
        # Behind this loop the left row is ended: the word falls always, or with one truth.
        lead = "while left\n  step left\n"
        self.idles(lead + "if less\n  stop", (3, "dead"))
        self.idles(lead + "if right and less\n  stop", (2, "false"), (3, "dead"))
        self.idles(lead + "if not right or less\n  stop", (2, "true"))
        self.idles(lead + "while new left\n  set f\nset f", (3, "dead"), (4, "dead"))
        self.idles("if not left and new left or not right and new right\n  stop", (0, "false"), (1, "dead"))
        self.idles("if new left\n  stop", (0, "true"))

    def test_endless(self):
        self.idles("while left\n  set f\nput right")
        self.idles("while left or not left\n  if f\n    set g\n  elif g\n    stop\n  set f", (0, "true"), (3, "false"), (4, "dead"))

    def test_new_list(self):
        walk = Walk.read("stop\nstop")
        found = idle(walk)
        found.clear()
        self.assertEqual(idle(walk), [(1, "dead")])

    def test_by_chance(self):
        pairs = short_pairs(5)
        count = {"dead": 0, "true": 0, "false": 0, "tests": 0}
        for walk in walks_by_chance(0, 60):
            met = set()
            for left, right in pairs:
                met |= outcomes_of(walk, left, right)
            told = dict(idle(walk))
            lines = {stand[0] for stand in stands(walk)}
            self.assertEqual(idle(walk), sorted(told.items()))
            for line in range(len(walk)):
                word = told.get(line)
                truths = [truth for truth in (True, False) if is_test(walk, line) and outcome_rows(walk, line, truth) is not None]
                wanted = "dead" if line not in lines else {(True,): "true", (False,): "false"}.get(tuple(truths))
                self.assertEqual(word, wanted, (str(walk), line))
                count["tests"] += word is None and bool(truths)
                if word is not None:
                    count[word] += 1
                    barred = {"dead": {(line, None)}, "true": {(line, False)}, "false": {(line, True)}}[word]
                    self.assertFalse(barred & met)
        self.assertTrue(all(many > 10 for many in count.values()), count)

    def test_greatest(self):
        for text in (GREATEST, GREATEST_FIT, WIDE):
            walk = Walk.read(text)
            for line, word in idle(walk):
                self.assertIn(word, ("dead", "true", "false"))
                self.assertIsNone(outcome_rows(walk, line, {"true": False, "false": True}.get(word)))

    def test_example(self):
        self.same_kinds(idle(Walk.read("while left\n  if left\n    step left\n  else\n    stop")), [(1, "true"), (3, "dead")])


class OutcomeRowsTests(HeadsCase):
    def comes(self, total, walk, line, truth=None):
        """Checks shortest rows on which a run comes to a line with a truth, and returns them."""
        found = outcome_rows(walk, line, truth)
        self.assertEqual([found.__class__, *[row.__class__ for row in found]], [tuple] * 3)
        self.assertTrue(is_dense(*found), found)
        self.assertIn((line, truth), outcomes_of(walk, *found))
        self.assertEqual(outcome_rows(walk=walk, line=line, truth=truth) is None, False)
        if total is not None:
            self.assertEqual(len(found[0] + found[1]), total)
        return found

    def test_usual_walks(self):
        union = Walk.sample("union")
        self.assertEqual(outcome_rows(union, 0), ((), ()))
        self.assertEqual(outcome_rows(union, 0, False), ((), ()))
        self.assertEqual(self.comes(2, union, 2), ((0,), (1,)))
        self.assertEqual(self.comes(2, union, 4, True), ((1,), (0,)))
        self.assertEqual(self.comes(2, union, 4, False), ((0,), (0,)))
        self.assertEqual(self.comes(1, union, 10, True), ((0,), ()))
        self.assertEqual(self.comes(1, union, 15), ((), (0,)))

    def test_none(self):
        walk = Walk.read("if left or not left\n  step left\nelse\n  step right\nif less\n  stop")
        self.assertIsNone(outcome_rows(walk, 2))
        self.assertIsNone(outcome_rows(walk, 0, False))
        self.comes(0, walk, 0, True)
        self.comes(3, walk, 3, True)
        walk = Walk.read("while left\n  step left\nif less\n  stop")
        self.comes(0, walk, 2)
        self.assertIsNone(outcome_rows(walk, 2, True))
        self.assertIsNone(outcome_rows(walk, 2, False))
        self.assertIsNone(outcome_rows(walk, 3, None))

    def test_rounds_that_flags_count(self):
        walk = Walk.read(ROUNDS)
        self.assertEqual(self.comes(10, walk, 7)[1], ())
        self.comes(10, walk, 6, True)
        self.comes(1, walk, 11)
        self.comes(4, walk, 9)
        self.comes(7, walk, 11, True)
        self.comes(7, walk, 12)
        self.assertEqual(self.comes(10, -walk, 7)[0], ())
        walk = Walk.read("\n".join(["if left\n  step left"] * 11) + "\nif left\n  set f")
        self.assertEqual(len(walk), 24)
        self.assertEqual(self.comes(12, walk, 23), ((*range(12),), ()))

    def test_pairs_and_orders(self):
        walk = Walk.read("while left and right and equal\n  pairs left\n  if left and right and more\n    step right\n"
                         "    if left and right and less\n      stop")
        self.comes(4, walk, 3)
        found = self.comes(5, walk, 5)
        self.assertEqual(sorted(set(found[0] + found[1])), [0, 1, 2, 3])

    def test_rows_that_steps_end(self):
        # Two items that stay are fewer than three, one of which is passed and ends its row.
        walk = Walk.read("if left and right and equal\n" + "  set g\n" * 8 + "  set f\nelif left and right and less\n  step left\n"
                         "  if not left\n    step right\n    if right\n      set f\nif f\n  stop")
        self.assertEqual(self.comes(2, walk, 17), ((0,), (0,)))
        self.assertEqual(self.comes(2, walk, 16, True), ((0,), (0,)))
        self.assertEqual(self.comes(3, walk, 15), ((0,), (1, 2)))

    def test_endless(self):
        walk = Walk.read("while left\n  if f\n    set g\n  set f")
        self.comes(1, walk, 2)
        self.comes(0, walk, 0, False)

    def test_all_short_rows(self):
        pairs = short_pairs(5)
        count = {"none": 0, "far": 0, "rows": 0}
        for walk in walks_by_chance(200, 225):
            least = {}
            for left, right in pairs:
                for outcome in outcomes_of(walk, left, right):
                    least.setdefault(outcome, len(left) + len(right))
            for line in range(len(walk)):
                for truth in (None, True, False) if is_test(walk, line) else (None,):
                    found = outcome_rows(walk, line, truth)
                    if found is None:
                        self.assertNotIn((line, truth), least)
                        count["none"] += 1
                        continue
                    total = len(found[0] + found[1])
                    count["rows" if total <= 5 else "far"] += 1
                    self.assertEqual(min(total, 6), least.get((line, truth), 6), (str(walk), line, truth))
                    self.comes(total, walk, line, truth)
        self.assertTrue(all(many > 5 for many in count.values()), count)


if __name__ == "__main__":
    unittest.main()
