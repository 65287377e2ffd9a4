import unittest

from helpers import ODD_VALUES, HeadsCase
from twoheads.claims import Claim
from twoheads.verdicts import Alike, Breaks, Holds, Parted, Rows, Verdict

TABLES = ((), (1,), (((0, ()), 0),), ([1], {"a": ()}), (None, True), ("x", ((), ((),))), (1, 2, 3, "a", object))


class VerdictTests(HeadsCase):
    def test_classes(self):
        for made, bases in ((Holds, (Verdict,)), (Alike, (Verdict,)), (Rows, (Verdict,)), (Breaks, (Rows,)),
                            (Parted, (Rows,)), (Verdict, (object,))):
            self.assertEqual(made.__bases__, bases)
            for name in ("__eq__", "__bool__"):
                self.assertIn(name, vars(made))

    def test_tables(self):
        for made, word in ((Holds, "holds"), (Alike, "alike")):
            for table in TABLES:
                verdict = made(table=table)
                self.assertIs(verdict.paper, table)
                self.assertEqual(verdict.word, word)
                self.assertIs(bool(verdict), True)

    def test_rows(self):
        for made, word in ((Breaks, "breaks"), (Parted, "parted")):
            for left in TABLES:
                for right in TABLES:
                    verdict = made(left=left, right=right)
                    self.assertIs(verdict.left, left)
                    self.assertIs(verdict.right, right)
                    self.assertIs(verdict.paper.__class__, tuple)
                    self.assertEqual(len(verdict.paper), 2)
                    self.assertIs(verdict.paper[0], left)
                    self.assertIs(verdict.paper[1], right)
                    self.assertEqual(verdict.word, word)
                    self.assertIs(bool(verdict), False)
        self.assertEqual(Breaks((0,), (1, 1)).paper, ((0,), (1, 1)))

    def test_equal(self):
        def each():
            return [Holds(()), Holds(((0,), (1,))), Alike(()), Alike(((0,), (1,))), Breaks((), ()), Breaks((0,), (1,)),
                    Breaks((1,), (0,)), Parted((), ()), Parted((0,), (1,))]

        for k, one in enumerate(each()):
            for j, other in enumerate(each()):
                self.assertIs(one == other, k == j)
                self.assertIs(one != other, k != j)
            for value in (*ODD_VALUES, one.paper, one.word, Claim("inside")):
                self.assertIs(one == value, False)
                self.assertIs(value == one, False)

    def test_base_classes(self):
        self.assertIs(Verdict.__eq__(Holds(()), Holds(())), True)
        self.assertIs(Verdict.__eq__(Holds(()), Alike(())), False)
        self.assertIs(Rows.__eq__(Breaks((), ()), Parted((), ())), False)
        self.assertIs(Rows.__eq__(Breaks((), ()), Breaks((), ())), True)
        self.assertIs(Rows.__eq__(Breaks((), ()), ((), ())), False)
        self.assertEqual([Verdict.__bool__(made) for made in (Holds(()), Alike(()), Breaks((), ()), Parted((), ()))],
                         [True, True, False, False])
        self.assertIs(Rows.__bool__(Parted((), ())), False)


if __name__ == "__main__":
    unittest.main()
