import operator
import unittest
from itertools import product

from helpers import ODD_VALUES, HeadsCase, named, told
from twoheads.errors import BadItem, Disordered, TooMany
from twoheads.items import Item
from twoheads.rows import Row

SIGNS = {
    "+": (operator.add, operator.iadd, lambda m, n: m + n),
    "|": (operator.or_, operator.ior, max),
    "&": (operator.and_, operator.iand, min),
    "-": (operator.sub, operator.isub, lambda m, n: m - min(m, n)),
    "^": (operator.xor, operator.ixor, lambda m, n: abs(m - n)),
}


def texts_taken(sign, m, n):
    """Which of m left and n right doubles are taken, told plainly."""
    left = ["1l" + "abcd"[k] for k in range(m)]
    right = ["1r" + "abcd"[k] for k in range(n)]
    if sign == "+":
        return left + right
    if sign == "|":
        return left + (right[-(n - m):] if n > m else [])
    if sign == "&":
        return left[:min(m, n)]
    if sign == "-":
        many = m - min(m, n)
        return left[m - many:]
    if m > n:
        return left[n - m:]
    return right[m - n:] if n > m else []


def doubles(side, many):
    return named(*["1" + side + "abcd"[k] for k in range(many)])


class SignTests(HeadsCase):
    def test_doubles_taken_by_name(self):
        for sign, (act, change, _) in SIGNS.items():
            for m, n in product(range(5), repeat=2):
                left, right = Row(doubles("l", m)), Row(doubles("r", n))
                wanted = texts_taken(sign, m, n)
                for one, other in ((left, right), (left, list(right)), (left, tuple(right)),
                                   (list(left), right), (tuple(left), right)):
                    made = act(one, other)
                    self.assertIsInstance(made, Row)
                    self.assertEqual(told(made), wanted)
                for other in (right, list(right), tuple(right)):
                    row = Row(left)
                    second = row
                    changed = change(row, other)
                    self.assertIs(changed, second)
                    self.assertEqual(told(second), wanted)
                self.assertEqual((told(left), told(right)),
                                 (told(doubles("l", m)), told(doubles("r", n))))

    def test_many_ranks(self):
        left = Row([-2, -2, 0, 1, 1, 1, 5])
        right = Row([-3, -2, 1, 1, 5, 5, 9])
        for sign, (act, _, many) in SIGNS.items():
            for one, other in ((left, right), (right, left)):
                made = act(one, other)
                wanted = [rank for rank in range(-4, 11)
                          for _ in range(many(one.number(rank), other.number(rank)))]
                self.assertEqual(made.ranks(), wanted, sign)

    def test_the_row_itself(self):
        wanted = {"+": ["1a", "1b", "1a", "1b", "2", "2"], "|": ["1a", "1b", "2"],
                  "&": ["1a", "1b", "2"], "-": [], "^": []}
        for sign, (act, change, _) in SIGNS.items():
            row = Row(named("1a", "1b", "2"))
            made = act(row, row)
            self.assertIsNot(made, row)
            self.assertEqual(told(made), wanted[sign])
            self.assertEqual(told(row), ["1a", "1b", "2"])
            second = row
            row = change(row, row)
            self.assertIs(row, second)
            self.assertEqual(told(second), wanted[sign])

    def test_integers_in_lists(self):
        self.assertEqual((Row([1]) | [2, 2, 7]).ranks(), [1, 2, 2, 7])
        self.assertEqual(([2, 2, 7] - Row([2])).ranks(), [2, 7])
        self.assertEqual(((1, 1) & Row([1, 3])).ranks(), [1])
        self.assertEqual(((1, 1) ^ Row([1, 3])).ranks(), [1, 3])
        self.assertEqual(([] + Row([1])).ranks(), [1])

    def test_errors_of_lists(self):
        row = Row([5] * 200)
        for act, change, _ in SIGNS.values():
            for kind in (list, tuple):
                for value in ODD_VALUES:
                    if not isinstance(value, Item):
                        wrong = kind([9, 8, value])
                        self.raises(BadItem, {"part": 2}, act, row, wrong)
                        self.raises(BadItem, {"part": 2}, act, wrong, row)
                        self.raises(BadItem, {"part": 2}, change, row, wrong)
                for wrong, error, fields in ((kind([1, 3, 2]), Disordered, {"at": 2}),
                                             (kind([3] * 201), TooMany, {"most": 200}),
                                             (kind([3] * 201 + [1]), Disordered, {"at": 201})):
                    self.raises(error, fields, act, row, wrong)
                    self.raises(error, fields, act, wrong, row)
                    self.raises(error, fields, change, row, wrong)
        self.assertEqual(row.ranks(), [5] * 200)

    def test_most(self):
        half = Row([1] * 100)
        self.assertEqual(len(half + [1] * 100), 200)
        self.assertEqual(len([0] * 100 | half), 200)
        self.assertEqual(len(half ^ [2] * 100), 200)
        self.raises(TooMany, {"most": 200}, lambda: half + [1] * 101)
        self.raises(TooMany, {"most": 200}, lambda: [2] * 101 + half)
        self.raises(TooMany, {"most": 200}, lambda: half | [2] * 101)
        self.raises(TooMany, {"most": 200}, lambda: half ^ [2] * 101)
        for change in (operator.iadd, operator.ior, operator.ixor):
            self.raises(TooMany, {"most": 200}, change, half, [2] * 101)
        self.assertEqual(half.ranks(), [1] * 100)

    def test_other_kinds(self):
        for act, change, _ in SIGNS.values():
            for value in (1, None, "ab", {}):
                for deed in (lambda: act(Row(), value), lambda: act(value, Row()),
                             lambda: change(Row(), value)):
                    with self.assertRaises(TypeError):
                        deed()

    def test_shared_nothing(self):
        values = [2, 3]
        row = Row([1])
        row += values
        values.append(1)
        self.assertEqual(row.ranks(), [1, 2, 3])


class TimesTests(HeadsCase):
    def test_each_item_one_after_another(self):
        row = Row(named("1a", "1b", "2"))
        for k in range(10):
            wanted = ["1a"] * k + ["1b"] * k + ["2"] * k
            self.assertEqual(told(row * k), wanted)
            self.assertEqual(told(k * row), wanted)
        self.assertEqual(told(row), ["1a", "1b", "2"])
        self.assertIsNot(row * 1, row)

    def test_most(self):
        self.assertEqual(len(Row([1] * 25) * 8), 200)
        self.assertEqual(len(Row([1] * 200) * 1), 200)
        self.raises(TooMany, {"most": 200}, lambda: Row([1] * 67) * 3)
        self.raises(TooMany, {"most": 200}, lambda: 9 * Row([1] * 23))

    def test_product_makes_a_new_row(self):
        row = Row([1])
        second = row
        row *= 2
        self.assertEqual((row.ranks(), second.ranks()), ([1, 1], [1]))


if __name__ == "__main__":
    unittest.main()
