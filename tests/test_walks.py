import unittest

from helpers import ODD_VALUES, HeadsCase, named, told
from model import GREATEST, Maker
from twoheads.asking import Test
from twoheads.errors import BadName, BadPlace, BadText, BadWalk, Behind, Endless, Unlike
from twoheads.items import Item
from twoheads.parts import Break, Clear, If, Pairs, Put, Set, Step, Stop, While
from twoheads.rows import Row
from twoheads.walks import Walk

LEFT = Test.read("left")
NAMES = ("sum", "union", "both", "lacks", "xor", "join")


def nested(made, depth):
    """A statement in so many blocks."""
    part = Stop()
    for _ in range(depth):
        part = made(LEFT, [part])
    return part


def chained(many):
    """An `if` with so many `elif`, told as statements."""
    part = If(LEFT, [Stop()])
    for _ in range(many):
        part = If(LEFT, [Stop()], [part])
    return part


class MadeTests(HeadsCase):
    def wrong(self, reason, line, *parts):
        self.raises(BadWalk, {"reason": reason, "line": line}, Walk, *parts)

    def test_none(self):
        self.wrong("none", 0)

    def test_many(self):
        self.assertEqual(len(Walk(*[Stop()] * 24)), 24)
        self.wrong("many", 24, *[Stop()] * 25)
        self.wrong("many", 24, *[Stop()] * 300)
        block = [Put("left")] * 11
        self.assertEqual(len(Walk(While(LEFT, block, block), Stop())), 24)
        self.wrong("many", 24, While(LEFT, block, block), Stop(), Stop())
        self.wrong("many", 24, chained(12))
        self.wrong("many", 24, chained(400))
        self.assertEqual([Walk.MOST, Walk.DEEPEST], [24, 6])

    def test_deep(self):
        for made in (If, While):
            self.assertEqual(len(Walk(nested(made, 5))), 6)
            self.wrong("deep", 6, nested(made, 6))
            self.wrong("deep", 8, Stop(), Stop(), nested(made, 9))

    def test_depth_of_elif(self):
        self.assertEqual({depth for _, depth, _ in Walk(chained(10)).lines()}, {1, 2})
        part = chained(2)
        for _ in range(4):
            part = While(LEFT, [part])
        self.assertEqual(max(depth for _, depth, _ in Walk(part).lines()), 6)
        self.wrong("deep", 6, While(LEFT, [part]))

    def test_depth_of_other_else_blocks(self):
        inner = If(LEFT, [Stop()])
        for part, deepest in ((While(LEFT, [Stop()], [inner]), 3), (If(LEFT, [Stop()], [inner]), 2),
                              (If(LEFT, [Stop()], [inner, Stop()]), 3),
                              (If(LEFT, [Stop()], [While(LEFT, [Stop()])]), 3)):
            self.assertEqual(max(depth for _, depth, _ in Walk(part).lines()), deepest)

    def test_flags(self):
        self.wrong("flags", 2, Set("a"), Clear("b"), Set("c"))
        self.wrong("flags", 0, If(Test.read("a or b or c"), [Stop()]))
        self.wrong("flags", 2, If(Test.read("a"), [Set("b")], [While(Test.read("left or c"), [Stop()])]))
        self.assertEqual(Walk(Set("b"), Clear("a"), Set("b")).flags, ("a", "b"))

    def test_break(self):
        self.wrong("break", 0, Break())
        self.wrong("break", 1, If(LEFT, [Break()]))
        self.wrong("break", 2, While(LEFT, [Stop()], [Break()]))
        self.wrong("break", 2, While(LEFT, [Break()]), Break())
        self.wrong("break", 3, While(LEFT, [Stop()], [If(LEFT, [Break()])]))
        Walk(While(LEFT, [Break()]))
        Walk(While(LEFT, [If(LEFT, [Stop()], [If(LEFT, [Break()])])]))
        Walk(While(LEFT, [While(LEFT, [Stop()], [Break()])]))
        Walk(While(LEFT, [Put("left"), While(LEFT, [Break()], [If(LEFT, [Break()], [Break()])])]))

    def test_first_line_then_first_reason(self):
        acts = [Put("left")] * 22
        self.wrong("many", 24, *acts, Set("a"), Set("b"), If(Test.read("c"), [Stop()]))
        self.wrong("many", 24, *acts, Set("a"), Set("b"), Break())
        self.wrong("flags", 23, *acts, Set("a"), If(Test.read("b or c"), [Stop()]), Stop())
        deep = Set("c")
        for _ in range(5):
            deep = If(LEFT, [deep])
        walk = [Set("a"), Set("b"), If(LEFT, [deep])]
        self.wrong("deep", 8, *walk)
        self.wrong("flags", 2, Set("a"), Set("b"), Set("c"), *walk)
        self.wrong("break", 2, Set("a"), Set("b"), Break(), Set("c"))
        self.wrong("break", 0, Break(), *[Stop()] * 30)
        deep = Break()
        for _ in range(6):
            deep = If(LEFT, [deep])
        self.wrong("deep", 6, deep)

    def test_greatest(self):
        walk = Walk.read(GREATEST)
        self.assertEqual(len(walk), 24)
        self.assertEqual(max(depth for _, depth, _ in walk.lines()), 6)
        self.assertEqual(walk.flags, ("f", "g"))
        self.assertEqual(str(walk), GREATEST)
        self.assertEqual(-(-walk), walk)


class AskedTests(HeadsCase):
    def test_lines(self):
        walk = Walk(
            While(LEFT, [
                If(Test.read("less"), [Put("left")],
                   [If(Test.read("more or not f"), [Break()], [Set("f"), Step("left")])]),
            ], [If(LEFT, [Pairs("right")])]),
            Clear("g"),
        )
        self.same_kinds(list(walk.lines()), [
            (0, 1, "while left"), (1, 2, "if less"), (2, 3, "put left"), (3, 2, "elif more or not f"),
            (4, 3, "break"), (5, 3, "set f"), (6, 3, "step left"), (7, 2, "if left"),
            (8, 3, "pairs right"), (9, 1, "clear g"),
        ])
        self.assertEqual(str(walk), "\n".join([
            "while left", "  if less", "    put left", "  elif more or not f", "    break",
            "  else", "    set f", "    step left", "else", "  if left", "    pairs right", "clear g",
        ]))
        self.assertEqual(walk[7], If(LEFT, [Pairs("right")]))
        self.assertEqual(walk[6], Step("left"))
        self.same_kinds(walk.flags, ("f", "g"))
        self.assertEqual(len(walk), 10)

    def test_bad_places(self):
        walk = Walk.sample("sum")
        self.assertEqual([walk[k].head() for k in range(len(walk))],
                         ["while left or right", "if not right or left and not more", "put left",
                          "step left", "put right", "step right"])
        for line in (-1, 6, 7, 24, 10 ** 59, -(10 ** 59)):
            self.raises(BadPlace, {"at": line}, lambda k=line: walk[k])

    def test_not_iterated_over(self):
        with self.assertRaises(TypeError):
            list(Walk.sample("sum"))

    def test_lists_changed_afterwards(self):
        block = [Step("left")]
        parts = [While(LEFT, block), Stop()]
        walk = Walk(*parts)
        block.append(Put("left"))
        parts.clear()
        self.assertEqual(str(walk), "while left\n  step left\nstop")

    def test_equal(self):
        for name in NAMES:
            for other in NAMES:
                self.assertIs(Walk.sample(name) == Walk.sample(other), name == other)
                self.assertIs(Walk.sample(name) != Walk.sample(other), name != other)
        self.assertIs(Walk(Stop()) == Walk(Stop(), Stop()), False)
        self.assertIs(Walk(Stop()) == Walk(Clear("f")), False)
        for value in ("stop", None, 1, (Stop(),), [Stop()], Stop()):
            self.assertIs(Walk(Stop()) == value, False)

    def test_turned(self):
        self.assertEqual(str(-Walk.sample("lacks")), "\n".join([
            "while right", "  if not left or more", "    put right", "    step right", "  elif less",
            "    step left", "  else", "    step right", "    step left",
        ]))
        for name in NAMES:
            walk = Walk.sample(name)
            self.assertEqual(-(-walk), walk)
            self.assertEqual(walk, Walk.sample(name))
        self.assertEqual(-Walk.read("pairs left\nset f"), Walk.read("pairs right\nset f"))

    def test_added(self):
        one, other = Walk.read("step left\nset f"), Walk.read("while right\n  break")
        both = one + other
        self.assertEqual(str(both), "step left\nset f\nwhile right\n  break")
        self.assertEqual([len(one), len(other)], [2, 2])
        self.assertEqual(str(one + one), "step left\nset f\nstep left\nset f")
        half = Walk(*[Stop()] * 12)
        self.assertEqual(len(half + half), 24)
        self.raises(BadWalk, {"reason": "many", "line": 24}, lambda: half + half + Walk(Stop()))
        self.raises(BadWalk, {"reason": "flags", "line": 2},
                    lambda: one + Walk.read("if g or h\n  stop"))
        with self.assertRaises(TypeError):
            one + [Stop()]

    def test_samples(self):
        texts = {
            "sum": "while left or right\n  if not right or left and not more\n    put left\n"
                   "    step left\n  else\n    put right\n    step right",
            "union": "while left and right\n  if less\n    put left\n    step left\n  elif more\n"
                     "    put right\n    step right\n  else\n    put left\n    step left\n"
                     "    step right\nwhile left\n  put left\n  step left\nwhile right\n"
                     "  put right\n  step right",
            "both": "while left and right\n  if less\n    step left\n  elif more\n    step right\n"
                    "  else\n    put left\n    step left\n    step right",
            "lacks": "while left\n  if not right or less\n    put left\n    step left\n  elif more\n"
                     "    step right\n  else\n    step left\n    step right",
            "xor": "while left and right\n  if less\n    put left\n    step left\n  elif more\n"
                   "    put right\n    step right\n  else\n    step left\n    step right\n"
                   "while left\n  put left\n  step left\nwhile right\n  put right\n  step right",
            "join": "while left and right\n  if less\n    step left\n  elif more\n    step right\n"
                    "  else\n    pairs left",
        }
        for name, text in texts.items():
            self.assertEqual(str(Walk.sample(name)), text)
            self.assertEqual(Walk.read(text), Walk.sample(name=name))
            self.assertIsNot(Walk.sample(name), Walk.sample(name))
        for value in (*ODD_VALUES, "Sum", "sums", " sum", "sum\n", "left", "none", ["sum"], ("sum",)):
            with self.assertRaises(BadName) as caught:
                Walk.sample(value)
            self.assertIs(caught.exception.name, value)

    def test_examples(self):
        union = Walk.sample("union")
        self.assertEqual(told(union(Row([1, Item(1, "a")]), Row([1, 2]))), ["1", "1a", "2"])
        self.same_kinds((len(union), list(union.lines())[4], str(union[7].head())),
                        (16, (4, 2, "elif more"), "put left"))
        walk = Walk.read("while left\n  step right")
        self.raises(Behind, {"line": 1, "side": "right"}, walk, Row([1]), Row())
        self.assertEqual((-Walk.sample("lacks"))(Row([1]), Row([1, 2])), [Item(2)])


class CalledTests(HeadsCase):
    def falls(self, kind, fields, text, left=(), right=()):
        one, other = Row(left), Row(right)
        self.raises(kind, fields, Walk.read(text), one, other)
        self.assertEqual((one.ranks(), other.ranks()), (list(left), list(right)))

    def test_usual_walks(self):
        left = Row(named("-3a", "1a", "1b", "1c", "2a", "9a"))
        right = Row(named("-3x", "1x", "1y", "3x", "9x", "9y"))
        for name, wanted in (
            ("sum", "-3a -3x 1a 1b 1c 1x 1y 2a 3x 9a 9x 9y"),
            ("union", "-3a 1a 1b 1c 2a 3x 9a 9y"), ("both", "-3a 1a 1b 9a"), ("lacks", "1c 2a"),
            ("xor", "1c 2a 3x 9y"), ("join", "-3a 1a 1a 1b 1b 1c 1c 9a 9a"),
        ):
            self.assertEqual(told(Walk.sample(name)(left, right)), wanted.split())
            self.assertEqual(Walk.sample(name)(Row(), Row()), [])
        self.assertEqual(told(left), "-3a 1a 1b 1c 2a 9a".split())
        self.assertEqual(told(Walk.sample("sum")(left=left, right=left)),
                         [text for text in told(left) if text[:-1] != "1" for _ in "ab"][:2]
                         + ["1a", "1b", "1c"] * 2 + ["2a", "2a", "9a", "9a"])

    def test_the_items_themselves(self):
        left = Row(named("1a", "2b"))
        self.assertTrue(all(one is other for one, other in zip(Walk.sample("sum")(left, Row()), left)))

    def test_great_ranks(self):
        great = 10 ** 30 - 1
        found = Walk.sample("sum")(Row([-great, 0, great]), Row([-great, great - 1]))
        self.assertEqual([item.rank for item in found], [-great, -great, 0, great - 1, great])

    def test_full_rows(self):
        left, right = Row([3] * 200), Row([3] * 200)
        self.assertEqual(len(Walk.sample("join")(left, right)), 40000)
        self.assertEqual(len(Walk.sample("sum")(left, right)), 400)

    def test_pairs_of_both_sides(self):
        left, right = Row(named("1a", "1b", "2c")), Row(named("1x", "1y", "1z", "3w"))
        self.assertEqual(told(Walk.read("pairs left")(left, right)), "1a 1a 1a 1b 1b 1b".split())
        self.assertEqual(told(Walk.read("pairs right")(left, right)), "1x 1x 1y 1y 1z 1z".split())
        walk = Walk.read("step left\nstep right\npairs right\nput left\nput right")
        self.assertEqual(told(walk(left, right)), "1y 1z 2c 3w".split())

    def test_behind(self):
        for word in ("put", "step"):
            for side in ("left", "right"):
                rows = {"left": ((), (1,)), "right": ((1,), ())}[side]
                self.falls(Behind, {"line": 1, "side": side}, f"set f\n{word} {side}", *rows)
                self.falls(Behind, {"line": 0, "side": side}, f"{word} {side}")
        for text in ("pairs left", "pairs right", "if less\n  stop", "while not equal\n  stop",
                     "if left or more\n  stop"):
            self.falls(Behind, {"line": 0, "side": "left"}, text)
            self.falls(Behind, {"line": 0, "side": "left"}, text, (), (1,))
        for text in ("pairs left", "pairs right", "if less\n  stop", "while not equal\n  stop",
                     "if right or more\n  stop"):
            self.falls(Behind, {"line": 0, "side": "right"}, text, (1,), ())
        self.falls(Behind, {"line": 1, "side": "right"}, "set f\nif new right\n  stop", (1,))
        self.falls(Behind, {"line": 1, "side": "left"}, "set f\nif not new left\n  stop", (), (1,))
        self.falls(Behind, {"line": 1, "side": "left"}, "step left\nif right and equal\n  stop", (1,), (1,))

    def test_unlike(self):
        self.falls(Unlike, {"line": 0}, "pairs left", (1,), (2,))
        self.falls(Unlike, {"line": 1}, "set f\npairs right", (2,), (1, 2))

    def test_endless(self):
        self.falls(Endless, {"line": 0}, "while left\n  put left", (1,))
        self.falls(Endless, {"line": 0}, "while not left\n  set f")
        self.falls(Endless, {"line": 0}, "while left\n  set f\n  clear f", (1,))
        self.falls(Endless, {"line": 2}, "while left\n  put left\n  put right", (1,), (2,))
        self.falls(Endless, {"line": 2}, "step left\nset f\nwhile f\n  put left", (1, 1))
        text = "while not f\n  if g\n    clear g\n  else\n    set g"
        self.falls(Endless, {"line": 0}, text)
        text = "while left\n  if f\n    step left\n  else\n    set f\nwhile right\n  set g"
        self.falls(Endless, {"line": 4}, text, (1, 2), (3,))

    def test_not_endless(self):
        walk = Walk.read("while not f\n  if g\n    set f\n  else\n    set g\nput left")
        self.assertEqual(told(walk(Row([1]), Row())), ["1"])
        walk = Walk.read("while new left\n  put left\nput right")
        self.assertEqual(told(walk(Row([1]), Row([2]))), ["1", "2"])
        self.assertEqual(told(Walk.read("while left\n  step left")(Row([1] * 200), Row())), [])

    def test_new(self):
        walk = Walk.read("while left\n  if new left\n    put left\n  step left")
        self.assertEqual(told(walk(Row(named("1a", "1b", "2c", "2d", "3e")), Row())), ["1a", "2c", "3e"])
        walk = Walk.read("put left\nif new right\n  put right\nelse\n  stop\nput left")
        self.assertEqual(told(walk(Row([1]), Row([2]))), ["1", "2", "1"])
        self.assertEqual(told(walk(Row([1]), Row([1]))), ["1"])

    def test_break_and_else(self):
        text = ("while left\n  if left and right and equal\n    put left\n    break\n  step left\n"
                "else\n  put right\nwhile right\n  step right\nelse\n  set f\nif not f\n  put left")
        walk = Walk.read(text)
        self.assertEqual(told(walk(Row(named("1a", "2b")), Row(named("2x")))), ["2b"])
        self.assertEqual(told(walk(Row(named("1a")), Row(named("2x")))), ["2x"])
        inner = ("while left\n  while left\n    step left\n    break\n  else\n    break\n  if left\n"
                 "    put left\nput right")
        self.assertEqual(told(Walk.read(inner)(Row([1, 2]), Row([7]))), ["2", "7"])
        outer = "while right\n  while left\n    step left\n  else\n    break\nput right"
        self.assertEqual(told(Walk.read(outer)(Row([1, 2]), Row([7]))), ["7"])

    def test_stop(self):
        walk = Walk.read("while left\n  put left\n  stop\nput right")
        self.assertEqual(told(walk(Row([1]), Row([2]))), ["1"])
        self.assertEqual(told(walk(Row(), Row([2]))), ["2"])


class ChanceTests(HeadsCase):
    def test_texts_of_many_walks(self):
        made = 0
        for seed in range(400):
            maker = Maker(seed)
            parts = maker.block(0, False, 4)
            try:
                walk = Walk(*parts)
            except BadWalk as error:
                self.assertEqual(error.reason, "many")
                continue
            made += 1
            self.assertEqual(Walk.read(str(walk)), walk)
            self.assertEqual(str(Walk.read(str(walk))), str(walk))
            self.assertEqual([walk[line].head() for line in range(len(walk))],
                             [row.removeprefix("el") for _, _, row in walk.lines()])
            self.assertEqual(-(-walk), walk)
            self.assertEqual(walk.flags, tuple(sorted(walk.flags)))
        self.assertGreater(made, 300)

    def test_cut_texts(self):
        for name in NAMES:
            text = str(Walk.sample(name))
            for at in range(len(text)):
                try:
                    self.assertLessEqual(len(Walk.read(text[:at])), 16)
                except BadText as error:
                    rows = text[:at].split("\n")
                    self.assertIn(error.row, (len(rows) - 1, len(rows)))


if __name__ == "__main__":
    unittest.main()
