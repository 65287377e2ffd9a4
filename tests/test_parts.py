import unittest

from helpers import HeadsCase
from twoheads import parts
from twoheads.asking import Test
from twoheads.parts import (
    Act, Branch, Break, Clear, Flagged, If, Pairs, Part, Put, Set, Sided, Step, Stop, While,
)

LEFT = Test.read("left")
LESS = Test.read("less and new left")


def samples():
    return [Put("left"), Put("right"), Step("left"), Step("right"), Pairs("left"), Pairs("right"),
            Set("f"), Set("g"), Clear("f"), Clear("g"), Break(), Stop(),
            If(LEFT, [Stop()]), If(LESS, [Stop()]), If(LEFT, [Break()]), If(LEFT, [Stop()], [Stop()]),
            If(LEFT, [Stop()], [Break()]), If(LEFT, [Stop(), Stop()]),
            While(LEFT, [Stop()]), While(LEFT, [Stop()], [Stop()]), While(LESS, [Stop()])]


class PartTests(HeadsCase):
    def test_classes(self):
        for made, bases in ((Act, (Part,)), (Flagged, (Act,)), (Branch, (Part,)), (Put, (Act, Sided)),
                            (Step, (Act, Sided)), (Pairs, (Act, Sided)), (Set, (Flagged,)),
                            (Clear, (Flagged,)), (Break, (Act,)), (Stop, (Act,)), (If, (Branch,)),
                            (While, (Branch,))):
            self.assertEqual(made.__bases__, bases)

    def test_base_class_alone(self):
        self.assertEqual(Part().size, 1)
        for deed in (Part().head, Part().turned):
            with self.assertRaises(NotImplementedError):
                deed()
        self.assertIs(Part.__eq__(Put("left"), Put("right")), True)
        self.assertIs(Part.__eq__(Put("left"), Step("left")), False)
        self.assertIs(Part.__eq__(Put("left"), "put"), False)

    def test_told_in_the_class_itself(self):
        for made in (Part, Put, Step, Pairs, Set, Clear, Break, Stop, If, While):
            for name in ("head", "turned", "size", "__eq__"):
                self.assertIn(name, vars(made))
            self.assertIsInstance(vars(made)["size"], property)
            self.assertEqual(made.__module__, parts.__name__)

    def test_words_and_heads(self):
        words = ["put", "put", "step", "step", "pairs", "pairs", "set", "set", "clear", "clear",
                 "break", "stop", "if", "if", "if", "if", "if", "if", "while", "while", "while"]
        heads = ["put left", "put right", "step left", "step right", "pairs left", "pairs right",
                 "set f", "set g", "clear f", "clear g", "break", "stop", "if left",
                 "if less and new left", "if left", "if left", "if left", "if left", "while left",
                 "while left", "while less and new left"]
        self.same_kinds([part.word for part in samples()], words)
        self.same_kinds([part.head() for part in samples()], heads)
        self.assertTrue(all("word" in vars(part) for part in samples()))

    def test_attributes(self):
        self.assertEqual([part.side for part in samples()[:6]], ["left", "right"] * 3)
        self.assertEqual([part.flag for part in samples()[6:10]], ["f", "g"] * 2)
        for made in (If, While):
            block = [Put("left"), Stop()]
            other = [Break()]
            part = made(LEFT, block, other)
            block.clear()
            other.append(Stop())
            self.assertIs(part.test, LEFT)
            self.assertEqual((part.block, part.other), ((Put("left"), Stop()), (Break(),)))
            self.assertEqual((made(LEFT, (Stop(),)).block, made(LEFT, (Stop(),)).other), ((Stop(),), ()))

    def test_arguments_by_name(self):
        self.assertEqual(Put(side="left"), Put("left"))
        self.assertEqual(Step(side="left"), Step("left"))
        self.assertEqual(Pairs(side="left"), Pairs("left"))
        self.assertEqual(Set(flag="f"), Set("f"))
        self.assertEqual(Clear(flag="f"), Clear("f"))
        for made in (If, While):
            self.assertEqual(made(other=(Stop(),), block=[Break()], test=LEFT),
                             made(LEFT, [Break()], [Stop()]))

    def test_equal(self):
        for k, one in enumerate(samples()):
            for j, other in enumerate(samples()):
                self.assertIs(one == other, k == j)
                self.assertIs(one != other, k != j)
            for value in (one.head(), one.word, None, 1, (), [one]):
                self.assertIs(one == value, False)

    def test_turned(self):
        turned = [1, 0, 3, 2, 5, 4, 6, 7, 8, 9, 10, 11]
        for k, part in enumerate(samples()[:12]):
            self.assertEqual(part.turned(), samples()[turned[k]])
        block = [Put("left"), If(LEFT, [Step("right")], [Pairs("left")])]
        other = [While(LESS, [Set("f")], [Put("right")])]
        right, more = Test.read("right"), Test.read("more and new right")
        for made in (If, While):
            part = made(LEFT, block, other)
            wanted = made(right, [Put("right"), If(right, [Step("left")], [Pairs("right")])],
                          [While(more, [Set("f")], [Put("left")])])
            self.assertEqual(part.turned(), wanted)
            self.assertEqual(part.turned().turned(), part)
            self.assertEqual(part, made(LEFT, block, other))

    def test_size(self):
        self.same_kinds([part.size for part in samples()],
                        [1] * 12 + [2, 2, 2, 3, 3, 3, 2, 3, 2])
        inner = If(LEFT, [Stop(), Stop()], [While(LEFT, [Stop()], [Stop(), Stop()])])
        self.assertEqual(inner.size, 7)
        self.assertEqual(While(LEFT, [inner, inner], [inner]).size, 22)


if __name__ == "__main__":
    unittest.main()
