import unittest
from itertools import product

from forms import all_rows
from helpers import ODD_VALUES, HeadsCase
from judge import WORDS, broken, dense_pairs, is_dense
from model import GREATEST, Maker
from twoheads.checks import breaks, check, holds
from twoheads.claims import Claim
from twoheads.errors import BadName, BadWalk
from twoheads.items import Item
from twoheads.plays import Play
from twoheads.rows import Row
from twoheads.stands import first_stands, moves, stands
from twoheads.verdicts import Breaks, Holds
from twoheads.walks import Walk

NAMES = ("sum", "union", "both", "lacks", "xor", "join")
SHORT = Walk.read("while left\n  put left\n  step left")
ALWAYS = ["inside", "ending", "ordered", "stable", "level"]
KEPT = {
    "sum": [*ALWAYS, "keeps left", "keeps right", "uses left", "uses right"],
    "union": [*ALWAYS, "keeps left", "uses left", "uses right"],
    "both": [*ALWAYS, "spares right"],
    "lacks": [*ALWAYS, "uses left", "spares right"],
    "xor": [*ALWAYS, "uses left", "uses right"],
    "join": [*ALWAYS, "spares right"],
}


def walks_by_chance(first, behind):
    """Pairs (Maker, walk) of the walks by chance of some seeds."""
    found = []
    for seed in range(first, behind):
        maker = Maker(seed)
        try:
            found.append((maker, Walk(*maker.block(0, False, 4))))
        except BadWalk:
            pass
    return found


def rows_met(walk, claim, left, right):
    """The rows (stand, mark) of a run that is watched."""
    play, mark, found = Play(walk, Row(left), Row(right)), 0, set()
    while not play.over:
        stand = play.stand
        found.add((stand, mark))
        event = play.do()
        if play.fall is None:
            told = event[:3] if event[0] in ("put", "step") else event
            told = (*event[:3], *event[5:]) if event[0] == "pairs" else told
            mark = claim.mark(stand, mark, told)
    if play.fall is None:
        found.add((play.stand, mark))
    return found


def ending_mark(walk, stand, deep=0):
    """The least mark of a stand for `ending`, by going on until an item is passed."""
    if deep > 2000:
        raise RecursionError
    found = list(moves(walk, stand))
    if not found or found[0][0][0] in ("step", "pairs", "behind", "unlike"):
        return 0
    return 1 + ending_mark(walk, found[0][1][0], deep + 1)


class CheckTests(HeadsCase):
    def kept(self, verdict, table):
        self.assertIs(verdict.__class__, Holds)
        self.same_kinds(verdict.paper, tuple(table))

    def broken_by(self, walk, word, verdict):
        """Checks that a verdict brings rows of the told form that break the claim, and returns their length."""
        self.assertIs(verdict.__class__, Breaks)
        left, right = verdict.paper
        self.assertEqual([left.__class__, right.__class__], [tuple, tuple])
        self.assertTrue(is_dense(left, right), verdict.paper)
        self.assertIn(word, broken(walk, left, right))
        self.assertIs(breaks(walk, word, left, right), True)
        return len(left) + len(right)

    def test_usual_walks(self):
        for name in NAMES:
            walk = Walk.sample(name)
            for word in WORDS:
                verdict = check(walk=walk, claim=word)
                self.assertIs(bool(verdict), word in KEPT[name], (name, word))
                self.assertEqual(verdict, check(walk, Claim(word)))
                if not verdict:
                    self.broken_by(walk, word, verdict)

    def test_tables_have_just_what_comes_about(self):
        rows = all_rows(3, 4)
        for name in NAMES:
            walk = Walk.sample(name)
            met = {word: set() for word in KEPT[name]}
            for left, right in product(rows, rows):
                for word in met:
                    met[word] |= rows_met(walk, Claim(word), left, right)
            for word in met:
                if word != "ending":
                    self.kept(check(walk, word), sorted(met[word]))
            self.kept(check(walk, "ending"), [(stand, ending_mark(walk, stand)) for stand in stands(walk)])

    def test_both_marks(self):
        table = check(Walk.sample("union"), "stable").paper
        self.assertEqual({mark for _, mark in table}, {0, 1})
        self.assertEqual(len({stand for stand, _ in table}), len(stands(Walk.sample("union"))))
        self.assertGreater(len(table), len(stands(Walk.sample("union"))))
        walk = Walk.read("while left\n  put left\n  step left")
        self.assertIn(((2, (), "left", "equal", "-"), 1), check(walk, "keeps left").paper)
        self.assertIn(((1, (), "left", "below", "-"), 0), check(walk, "keeps left").paper)

    def test_walks_by_chance_on_all_short_rows(self):
        pairs = [pair for total in range(5) for pair in dense_pairs(total)]
        self.assertEqual(len(pairs), 1 + 2 + 7 + 24 + 82)
        count = {"holds": 0, "breaks": 0, "far": 0}
        for _, walk in walks_by_chance(0, 160):
            least = {}
            for left, right in pairs:
                for word in broken(walk, left, right):
                    least.setdefault(word, len(left) + len(right))
            for word in WORDS:
                verdict = check(walk, word)
                count[verdict.word] += 1
                if verdict:
                    self.assertNotIn(word, least)
                    self.assertIs(holds(walk, word, verdict.paper), True)
                    continue
                total = self.broken_by(walk, word, verdict)
                count["far"] += total > 4
                self.assertEqual(min(total, 5), least.get(word, 5), (str(walk), word, verdict.paper))
        self.assertTrue(all(many > 10 for many in count.values()), count)

    def test_turned(self):
        for _, walk in walks_by_chance(400, 460):
            for word in WORDS:
                if word == "stable":
                    continue
                one, other = check(walk, word), check(-walk, Claim(word).turned())
                self.assertEqual(one.word, other.word)
                if one:
                    self.assertEqual(len(one.paper), len(other.paper))
                else:
                    self.assertEqual(len(one.left + one.right), len(other.left + other.right))

    def test_ending_is_kept_without_quiet_rings(self):
        found = {True: 0, False: 0}
        for _, walk in walks_by_chance(500, 700):
            try:
                marks = [(stand, ending_mark(walk, stand)) for stand in stands(walk)]
            except RecursionError:
                marks = None
            verdict = check(walk, "ending")
            found[bool(verdict)] += 1
            if marks is None:
                self.assertEqual(verdict.word, "breaks")
            else:
                self.kept(verdict, marks)
        self.assertTrue(all(many > 9 for many in found.values()), found)

    def test_guarded_steps(self):
        text = "\n".join(["if left\n  step left"] * 11) + "\nif left\n  put right"
        walk = Walk.read(text)
        self.assertEqual(len(walk), 24)
        verdict = check(walk, "inside")
        self.assertEqual(self.broken_by(walk, "inside", verdict), 12)
        self.assertEqual(len(verdict.left), 12)
        verdict = check(-walk, "inside")
        self.assertEqual((len(verdict.left), len(verdict.right)), (0, 12))
        text = "\n".join(["if left and right and equal\n  pairs left"] * 11) + "\nif left and right and equal\n  step left"
        self.assertEqual(self.broken_by(Walk.read(text), "single", check(Walk.read(text), "single")), 3)
        walk = Walk.read("\n".join(["step left"] * 20 + ["put right", "step right", "put left", "put left"]))
        verdict = check(walk, "single")
        self.assertEqual(self.broken_by(walk, "single", verdict), 22)

    def least(self, total, word, text):
        """Checks the length of the shortest rows that break a claim, also of the exchanged walk."""
        walk, claim = Walk.read(text), Claim(word)
        self.assertEqual(self.broken_by(walk, word, check(walk, claim)), total)
        if word != "stable":
            turned = claim.turned()
            self.assertEqual(self.broken_by(-walk, turned.word, check(-walk, turned)), total)

    def test_items_that_come_into_sight(self):
        heads = "if left and right and equal\n  pairs left\n"
        other = "elif left and right and less\n  step left\n  if left\n    put right"
        # Pairs of three items and a put of two; pairs with one or two heads behind and a put of three.
        self.least(2, "single", heads + "elif left and right and less\n  put left\n  put left")
        self.least(3, "spares right", heads + "  if left and right\n    put right\n" + other)
        self.least(3, "spares right", heads + "  if right\n    put right\n" + other + "\n    put right")
        self.least(3, "spares right", heads + "  if right\n    put right\nelif left and right and less\n  step left\n"
                                              "  if left\n    step left\n    if left\n      put right")
        self.least(2, "inside", heads + "  if not left and not right\n    put left\n"
                                "elif left and right and less\n  step left\n  if left and right and less\n    pairs left")
        # Rows that are ended by steps bring nothing into sight.
        self.least(2, "inside", "if left and right and equal\n  step left\n  step right\n  if not left and not right\n"
                                "    put left\nelif left and right and less\n  step left\n  if left and right and less\n"
                                "    pairs left")

    def test_rounds_that_flags_count(self):
        rounds = ("while left\n  step left\n  if left\n    step left\n    if left\n      step left\n  if f and g\n    put right\n"
                  "  elif f\n    set g\n    clear f\n  elif g\n    set f\n  else\n    set f")
        walk = Walk.read(rounds)
        verdict = check(walk, "inside")
        self.assertEqual(self.broken_by(walk, "inside", verdict), 10)
        self.assertEqual((verdict.right, len(verdict.left)), ((), 10))
        verdict = check(walk, "spares right")
        self.assertEqual(self.broken_by(walk, "spares right", verdict), 11)

    def test_orders_of_ranks(self):
        walk = Walk.read("if left and right and less\n  step left\n  if left and more\n    step right\n    if right and more\n"
                         "      step right\n      if right and less\n        step left\n        if left and more\n          put left\n"
                         "          put right")
        verdict = check(walk, "ordered")
        self.assertEqual(self.broken_by(walk, "ordered", verdict), 6)
        self.assertEqual(sorted(verdict.left + verdict.right), [0, 1, 2, 3, 4, 5])
        walk = Walk.read("put left\nif right and less\n  step left\n  if left and equal\n    step right\n    if right\n"
                         "      step left\n      if left and equal\n        put right\n        step right\n        put left")
        self.broken_by(walk, "single", check(walk, "single"))

    def test_greatest(self):
        walk = Walk.read(GREATEST)
        for word in WORDS:
            verdict = check(walk, word)
            if verdict:
                self.assertIs(holds(walk, word, verdict.paper), True)
            else:
                self.broken_by(walk, word, verdict)

    def test_endless_runs_go_on(self):
        walk = Walk.read("while left\n  put left")
        for word in ("ending", "single", "keeps left", "spares left"):
            self.assertEqual(check(walk, word).paper, ((0,), ()))
        for word in ("inside", "ordered", "uses left", "spares right"):
            self.assertIs(bool(check(walk, word)), True)
        self.assertEqual(len(sum(check(walk, "level").paper, ())), 2)

    def test_papers_are_new(self):
        walk = Walk.sample("union")
        self.assertEqual(check(walk, "ordered"), check(walk, "ordered"))
        self.assertEqual(str(walk), str(Walk.sample("union")))

    def test_examples(self):
        union = Walk.sample("union")
        self.same_kinds([bool(check(union, word)) for word in ("inside", "ordered", "single", "keeps left", "keeps right")],
                        [True, True, False, True, False])
        self.same_kinds(check(union, "keeps right").paper, ((0,), (0,)))
        self.same_kinds(check(Walk.sample("both"), "uses left").paper, ((0,), ()))
        self.same_kinds(check(SHORT, "ending").paper[0], ((0, (), "equal", "below", "below"), 2))
        self.assertIs(breaks(Walk.read("while right\n  put left\n  put right"), "keeps right", (0,), (0,)), True)
        guarded = Walk.read("if left\n  step left")
        self.assertEqual([len(check(guarded, word).paper) for word in ("inside", "spares left")], [16, 16])
        self.assertEqual(check(Walk.read("step left"), "inside").paper, ((), ()))


class BadNameTests(HeadsCase):
    def test_all(self):
        walk = Walk.sample("union")
        for value in (*ODD_VALUES, "Inside", "keeps", "steady", ("inside",), ["inside"], Walk.read("stop"), "x" * 6000):
            for deed in (lambda: check(walk, value), lambda: holds(walk, value, None), lambda: breaks(walk, value, 1, 2),
                         lambda: holds(walk, value, ()), lambda: breaks(walk, value, (), ())):
                with self.assertRaises(BadName) as caught:
                    deed()
                self.assertIs(caught.exception.name, value)


class HoldsTests(HeadsCase):
    def shows(self, wanted, walk, word, table):
        for told in (table, list(table)):
            self.assertIs(holds(walk, word, told), wanted)
            self.assertIs(holds(walk=walk, claim=Claim(word), table=told), wanted)

    def test_forms_of_the_table(self):
        for name in NAMES:
            walk = Walk.sample(name)
            for word in KEPT[name]:
                table = check(walk, word).paper
                before = repr(table)
                self.shows(True, walk, word, table)
                self.shows(True, walk, word, table[::-1])
                self.shows(True, walk, word, table[7:] + table[:9])
                self.shows(False, walk, word, table[1:])
                self.shows(False, walk, word, ())
                self.assertEqual(repr(table), before)

    def test_a_row_left_out(self):
        for name, word in (("union", "inside"), ("sum", "keeps right"), ("lacks", "stable"), ("both", "ending")):
            walk = Walk.sample(name)
            table = check(walk, word).paper
            for k in range(len(table)):
                self.shows(False, walk, word, table[:k] + table[k + 1:])

    def test_wrong_rows(self):
        walk = Walk.sample("union")
        for word in ("inside", "ending", "stable", "keeps left"):
            table = check(walk, word).paper
            stand, mark = table[5]
            line, flags, heads, left_last, right_last = stand
            for row in ((stand,), (stand, mark, 0), [stand, mark], (mark, stand), stand, mark, (list(stand), mark),
                        (stand, None), (stand, False), (stand, True), (stand, str(mark)), (stand, (mark,)), (stand, -1),
                        ((line, flags, heads, left_last), mark), ((*stand, 0), mark), ((17, *stand[1:]), mark),
                        ((-1, *stand[1:]), mark), ((True, *stand[1:]), mark), ((line, ("f",), *stand[2:]), mark),
                        ((line, [], *stand[2:]), mark), ((line, flags, "more", "-", "-"), mark),
                        ((line, flags, "less", "below", "none"), mark), *ODD_VALUES):
                self.shows(False, walk, word, (*table, row))
                self.shows(False, walk, word, (row, *table))
                self.shows(False, walk, word, (*table[:5], row, *table[6:]))

    def test_wrong_marks(self):
        walk = Walk.sample("union")
        for word in KEPT["union"]:
            table = check(walk, word).paper
            stand = table[0][0]
            wrong = (2, -1, 10 ** 59) if word in ("stable", "keeps left") else (1, 2, -1, -(10 ** 59))
            for mark in wrong if word != "ending" else (-1, -5):
                self.shows(False, walk, word, (*table, (stand, mark)))
        table = check(walk, "inside").paper
        self.shows(False, walk, "inside", [(stand, False) for stand, _ in table])

    def test_first_stands_need_the_mark_0(self):
        walk = Walk.read("if f\n  step left\nstop")
        table = check(walk, "stable").paper
        self.assertEqual({mark for _, mark in table}, {0})
        self.shows(True, walk, "stable", table)
        self.shows(True, walk, "stable", [*table, *[(stand, 1) for stand, _ in table]])
        self.shows(False, walk, "stable", [(stand, 1) for stand, _ in table])

    def test_more_than_comes_about(self):
        walk = Walk.read("if left\n  put left\n  step left")
        table = check(walk, "inside").paper
        more = [((2, (), "left", words, "-"), 0) for words in ("none", "above", "below")]
        ends = [((3, (), heads, *words), 0) for heads, words in (
            ("left", ("none", "-")), ("left", ("above", "-")), ("none", ("-", "-")), ("left", ("equal", "-")),
            ("left", ("below", "-")))]
        self.shows(True, walk, "inside", [*table, *more, *ends])
        self.shows(False, walk, "inside", [*table, more[1]])
        self.shows(False, walk, "inside", [*table, *ends, ((2, (), "right", "-", "none"), 0)])
        self.shows(False, walk, "ordered", [*table, *ends, ((1, (), "left", "above", "-"), 0), *more])
        self.shows(True, walk, "inside", [*table, *ends, ((1, (), "left", "above", "-"), 0), *more])

    def test_ends(self):
        walk = Walk.read("if left\n  step left")
        self.shows(True, walk, "inside", check(walk, "inside").paper)
        self.shows(False, walk, "uses left", check(walk, "inside").paper)
        self.shows(False, walk, "keeps right", check(walk, "inside").paper)
        walk = Walk.read("while left\n  step left")
        self.shows(True, walk, "uses left", check(walk, "inside").paper)
        self.shows(False, walk, "uses right", check(walk, "inside").paper)

    def test_falls(self):
        walk = Walk.read("step left")
        table = check(walk, "ordered").paper
        self.shows(True, walk, "ordered", table)
        self.shows(False, walk, "inside", table)

    def test_ending(self):
        for name in NAMES:
            walk = Walk.sample(name)
            table = check(walk, "ending").paper
            self.shows(True, walk, "ending", [(stand, 3 * mark + 10 ** 59) for stand, mark in table])
            self.shows(True, walk, "ending", [*table, table[3], table[0], table[3]])
            self.shows(False, walk, "ending", [(stand, 5) for stand, mark in table])
            for k, (stand, mark) in enumerate(table):
                self.shows(False, walk, "ending", [*table, (stand, mark + 1)])
                self.shows(False, walk, "ending", [(stand, mark + 7), *table])
                less = [*table[:k], (stand, mark - 1), *table[k + 1:]]
                self.shows(False, walk, "ending", less)
            stand, mark = max(table, key=lambda row: row[1])
            higher = [(other, many + 1 if other == stand else many) for other, many in table]
            self.shows(True, walk, "ending", higher)

    def test_ending_at_first_stands(self):
        walk = Walk.read("stop")
        table = [(stand, 7) for stand in first_stands(walk)] + [((1, *stand[1:]), 6) for stand in first_stands(walk)]
        self.shows(True, walk, "ending", table)
        self.shows(False, walk, "ending", [(stand, 6) for stand, _ in table])
        self.shows(False, walk, "ending", table[1:])

    def test_ending_without_end(self):
        walk = Walk.read("while not f\n  set g")
        table = [(stand, 30 - k) for k, stand in enumerate(stands(walk))]
        self.shows(False, walk, "ending", table)
        self.shows(False, walk, "ending", table[::-1])

    def test_any_values(self):
        walk = Walk.sample("union")
        for value in (*ODD_VALUES, check(walk, "inside"), walk, Item(1), dict(check(walk, "inside").paper)):
            self.assertIs(holds(walk, "inside", value), False)
        self.assertIs(holds(walk, "inside", [value for value in ODD_VALUES]), False)

    def test_broken_claims(self):
        for _, walk in walks_by_chance(700, 740):
            for word in WORDS:
                if not check(walk, word):
                    table = [(stand, 0) for stand in stands(walk)]
                    self.shows(False, walk, word, table)
                    self.shows(False, walk, word, table + [(stand, 1) for stand in stands(walk)])


class BreaksTests(HeadsCase):
    def test_walks_by_chance(self):
        count = {True: 0, False: 0}
        for maker, walk in walks_by_chance(0, 200):
            for _ in range(8):
                left, right = maker.row(7, 4), maker.row(7, 4)
                words = broken(walk, left, right)
                for word in WORDS:
                    self.assertIs(breaks(walk, word, left, tuple(right)), word in words, (str(walk), word, left, right))
                    count[word in words] += 1
        self.assertTrue(all(many > 1000 for many in count.values()), count)

    def test_other_ranks(self):
        ranks = [-(10 ** 30) + 1, -7, -6, 0, 10 ** 29, 10 ** 30 - 1]
        for maker, walk in walks_by_chance(200, 240):
            left, right = maker.row(6, 5), maker.row(6, 5)
            for word in WORDS:
                self.assertIs(breaks(walk, word, [ranks[k] for k in left], tuple(ranks[k] for k in right)),
                              breaks(walk, Claim(word), left, right))

    def test_any_values(self):
        walk = Walk.read("step left")
        self.assertIs(breaks(walk=walk, claim="inside", left=[], right=()), True)
        wrong = (*ODD_VALUES[:5], [[1]], [None], [True], [1, False], ["1"], [1, "2"], [2, 1], (1, 1, 0), [10 ** 30],
                 (-(10 ** 30), 0), {"left": 1}, {1: 2}, Row(), Row([1]), Item(1), [Item(1)], [(1,)], "12", 12)
        for value in wrong:
            self.assertIs(breaks(walk, "inside", value, ()), False)
            self.assertIs(breaks(walk, "inside", [], value), False)
            self.assertIs(breaks(walk, "inside", value, value), False)

    def test_long_rows(self):
        for name in ("sum", "union", "lacks"):
            walk = Walk.sample(name)
            rows = list(range(700)), list(range(0, 1400, 2))
            self.assertIs(breaks(walk, "inside", *rows), False)
            self.assertIs(breaks(walk, "single", *rows), name == "sum")
            self.assertIs(breaks(walk, "ordered", [3] * 700, [3] * 900), False)
            self.assertIs(breaks(walk, "uses right", [3] * 700, [3] * 900), name == "lacks")
        self.assertIs(breaks(Walk.sample("join"), "keeps left", [3] * 700, [3]), False)
        self.assertIs(breaks(Walk.sample("join"), "keeps left", [3] * 700, [3, 3]), True)

    def test_rows_stay(self):
        left, right = [1, 2], [2, 3]
        breaks(Walk.sample("union"), "keeps left", left, right)
        self.assertEqual((left, right), ([1, 2], [2, 3]))

    def test_endless(self):
        walk = Walk.read("while left\n  put left")
        for word in WORDS:
            self.assertIs(breaks(walk, word, [1], []), word in ("ending", "single", "keeps left", "spares left"))
        walk = Walk.read("while left\n  put left\n  put right")
        for word in WORDS:
            self.assertIs(breaks(walk, word, [1], [2]),
                          word in ("ending", "ordered", "level", "keeps left", "keeps right", "spares left", "spares right"))
            self.assertIs(breaks(walk, word, [1], [1]), word in (
                "ending", "single", "stable", "keeps left", "keeps right", "spares left", "spares right"))
        walk = Walk.read("while left\n  set f")
        self.assertEqual([word for word in WORDS if breaks(walk, word, [1, 1], [])], ["ending"])

    def test_what_is_done_before_a_fall(self):
        walk = Walk.read("put left\nput left\nput right")
        self.assertEqual([word for word in WORDS if breaks(walk, word, [1], [])],
                         ["inside", "single", "keeps left", "spares left"])
        walk = Walk.read("step left\npairs left")
        self.assertEqual([word for word in WORDS if breaks(walk, word, [1, 2], [3])], ["inside", "keeps left"])


if __name__ == "__main__":
    unittest.main()
