import unittest

from helpers import ODD_VALUES, HeadsCase, named, told
from twoheads.errors import BadItem, BadPlace, Disordered, TooMany
from twoheads.items import Item
from twoheads.rows import Row


class MadeTests(HeadsCase):
    def test_of_all_kinds(self):
        self.assertEqual(Row().listed(), [])
        self.assertEqual(told(Row([1, Item(1, "a"), 3])), ["1", "1a", "3"])
        self.assertEqual(told(Row((1, Item(1, "a"), 3))), ["1", "1a", "3"])
        self.assertEqual(told(Row(Row([1, Item(1, "a")]))), ["1", "1a"])
        self.assertEqual(told(Row(items=[-5, 0])), ["-5", "0"])
        item = Item(4, "a")
        self.assertIs(Row([item])[0], item)

    def test_first_wrong_value(self):
        for value in ODD_VALUES:
            if not isinstance(value, Item):
                self.raises(BadItem, {"part": 0}, Row, [value])
                self.raises(BadItem, {"part": 2}, Row, (1, 2, value, None))

    def test_all_values_ahead_of_their_order(self):
        self.raises(BadItem, {"part": 3}, Row, [3, 2, 1, True])
        self.raises(BadItem, {"part": 250}, Row, [5, 1] + [7] * 248 + ["x"])
        self.raises(Disordered, {"at": 1}, Row, [3, 2, 1])
        self.raises(Disordered, {"at": 3}, Row, [1, 1, 2, 0, 5, 4])
        self.raises(Disordered, {"at": 249}, Row, [7] * 249 + [6])

    def test_edges_of_ranks(self):
        self.assertEqual(len(Row([1 - 10 ** 30, 10 ** 30 - 1])), 2)
        self.raises(BadItem, {"part": 1}, Row, [1, 10 ** 30])
        self.raises(BadItem, {"part": 0}, Row, [-(10 ** 30)])

    def test_most(self):
        self.assertEqual(Row.MOST, 200)
        self.assertEqual(len(Row(list(range(200)))), 200)
        self.raises(TooMany, {"most": 200}, Row, list(range(201)))
        self.raises(TooMany, {"most": 200}, Row, (3,) * 201)

    def test_of(self):
        row = Row.of(3, Item(1, "b"), Item(3, "a"), 1, Item(1, "a"), 3)
        self.assertEqual(told(row), ["1b", "1", "1a", "3", "3a", "3"])
        self.assertEqual(Row.of(), Row())
        self.assertIsInstance(Row.of(1), Row)
        self.assertEqual(len(Row.of(*range(200, 0, -1))), 200)

    def test_of_refused(self):
        for value in ODD_VALUES:
            if not isinstance(value, Item):
                self.raises(BadItem, {"part": 2}, Row.of, 5, 1, value, None)
        self.raises(TooMany, {"most": 200}, Row.of, *range(201))
        self.raises(BadItem, {"part": 200}, Row.of, *range(200), None)

    def test_list_changed_afterwards(self):
        values = [1, 2, 3]
        row = Row(values)
        values.append(4)
        values[0] = 9
        self.assertEqual(row.ranks(), [1, 2, 3])
        other = Row(row)
        row[0] = 0
        self.assertEqual(other.ranks(), [1, 2, 3])


class ReadTests(HeadsCase):
    def setUp(self):
        self.row = Row([1, *named("2a", "2b"), 5])

    def test_index(self):
        self.assertEqual([str(self.row[k]) for k in range(4)], ["1", "2a", "2b", "5"])
        for k in (-1, 4, 5, -4, 10 ** 59, -(10 ** 59)):
            self.raises(BadPlace, {"at": k}, lambda k=k: self.row[k])
        self.raises(BadPlace, {"at": 0}, lambda: Row()[0])

    def test_stretch(self):
        self.assertEqual(told(self.row[1, 3]), ["2a", "2b"])
        self.assertEqual(told(self.row[0, 4]), ["1", "2a", "2b", "5"])
        for k in range(5):
            self.same_kinds(self.row[k, k], [])
        self.same_kinds(Row()[0, 0], [])
        self.assertIsInstance(self.row[0, 1], list)

    def test_stretch_refused(self):
        for first, behind, at in ((-1, 2, -1), (5, 5, 5), (5, 9, 5), (0, 5, 5), (2, 1, 1), (4, 3, 3),
                                  (0, -1, -1), (-1, -2, -1), (10 ** 59, 0, 10 ** 59),
                                  (0, 10 ** 59, 10 ** 59), (3, -(10 ** 59), -(10 ** 59))):
            self.raises(BadPlace, {"at": at}, lambda i=first, j=behind: self.row[i, j])

    def test_lists_belong_to_the_caller(self):
        for taken in (self.row.listed(), self.row.ranks(), self.row[0, 4]):
            taken.clear()
            taken.append(9)
        self.assertEqual(told(self.row), ["1", "2a", "2b", "5"])

    def test_lists(self):
        self.assertEqual(told(self.row.listed()), ["1", "2a", "2b", "5"])
        self.same_kinds(self.row.ranks(), [1, 2, 2, 5])
        self.same_kinds(list(self.row.blocks()), [(1, 1), (2, 2), (5, 1)])
        self.same_kinds(list(Row().blocks()), [])
        self.assertEqual([len(self.row), len(Row())], [4, 0])
        self.same_kinds(list(Row([3, 3, 4]).blocks()), [(3, 2), (4, 1)])

    def test_number(self):
        self.same_kinds([self.row.number(k) for k in (1, 2, 5, 3, -1)], [1, 2, 1, 0, 0])
        self.assertEqual(self.row.number(rank=10 ** 59), 0)

    def test_in(self):
        for value in (1, 2, 5, Item(2), Item(5, "z")):
            self.assertIs(value in self.row, True)
        for value in (*ODD_VALUES[:-2], 0, 3, Item(3, "a"), self.row, Row([1]), "1", (1,), [2]):
            self.assertIs(value in self.row, False)
        self.assertIs(False in Row([0]), False)

    def test_iterated_over(self):
        self.assertEqual([item.name for item in self.row], ["", "a", "b", ""])
        self.assertEqual(told(list(self.row)), told(self.row.listed()))

    def test_equal(self):
        self.assertIs(Row([1, 2]) == Row(named("1x", "2y")), True)
        self.assertIs(Row([1, 2]) != Row(named("1x", "2y")), False)
        self.assertIs(Row([1, 2]) == Row([1, 2, 2]), False)
        self.assertIs(Row() == Row(), True)
        for value in ([1, 2], (1, 2), 1, None, "12", {}, Item(1)):
            self.assertIs(Row([1, 2]) == value, False)
            self.assertIs(value == Row([1, 2]), False)
        self.assertIs(Row() == [], False)

    def test_within(self):
        self.assertIs(Row([2, 2]).within(self.row), True)
        self.assertIs(Row([2, 2, 2]).within(self.row), False)
        self.assertIs(Row([3]).within(other=self.row), False)
        self.assertIs(Row().within(Row()), True)
        self.assertIs(self.row.within(self.row), True)


class ChangedTests(HeadsCase):
    def put(self, row, k, value):
        row[k] = value

    def test_put(self):
        row = Row([1, 3, 5])
        row[1] = 4
        row[0] = Item(4, "a")
        row[2] = Item(9, "z")
        self.assertEqual(told(row), ["4a", "4", "9z"])

    def test_wrong_places(self):
        row = Row([1, 3, 5])
        for k in (-1, 3, 4, 10 ** 59, -(10 ** 59)):
            self.raises(BadPlace, {"at": k}, self.put, row, k, None)
            self.raises(BadPlace, {"at": k}, self.put, row, k, 3)
        self.raises(BadPlace, {"at": 0}, self.put, Row(), 0, 1)
        self.assertEqual(row.ranks(), [1, 3, 5])

    def test_wrong_values(self):
        row = Row([1, 3, 5])
        for value in ODD_VALUES:
            if not isinstance(value, Item):
                for k in range(3):
                    self.raises(BadItem, {"part": k}, self.put, row, k, value)
        self.assertEqual(row.ranks(), [1, 3, 5])

    def test_disordered(self):
        row = Row([1, 3, 5])
        self.raises(Disordered, {"at": 2}, self.put, row, 1, 6)
        self.raises(Disordered, {"at": 1}, self.put, row, 1, 0)
        self.raises(Disordered, {"at": 1}, self.put, row, 0, 4)
        self.raises(Disordered, {"at": 2}, self.put, row, 2, Item(2))
        self.assertEqual(row.ranks(), [1, 3, 5])
        row = Row([1, *named("2a", "2b"), 5])
        self.raises(Disordered, {"at": 2}, self.put, row, 1, 6)

    def test_full_row(self):
        row = Row([1] * 200)
        row[199] = 7
        self.assertEqual(row.number(7), 1)


class SettleTests(HeadsCase):
    def test_by_strings_and_numbers(self):
        row = Row(named("1c", "1a", "2b", "3b", "3a", "3b"))
        self.assertIsNone(row.settle(lambda item: item.name))
        self.assertEqual(told(row), ["1a", "1c", "2b", "3a", "3b", "3b"])
        row = Row(named("1abc", "1a", "1ab", "1b"))
        row.settle(by=lambda item: len(item.name))
        self.assertEqual(told(row), ["1a", "1b", "1ab", "1abc"])
        row.settle(lambda item: -len(item.name))
        self.assertEqual(told(row), ["1abc", "1ab", "1a", "1b"])

    def test_equal_answers_stand(self):
        row = Row(named("1c", "1a", "1b", "2z", "2y"))
        items = row.listed()
        row.settle(lambda item: 0)
        self.assertTrue(all(one is other for one, other in zip(row, items)))

    def test_error_leaves_the_row(self):
        for wrong in range(4):
            row = Row(named("1c", "1b", "1a", "2a"))
            asked = []

            def by(item):
                asked.append(item)
                if len(asked) == wrong + 1:
                    raise KeyError("no")
                return item.name

            with self.assertRaises(KeyError):
                row.settle(by)
            self.assertEqual(told(row), ["1c", "1b", "1a", "2a"])

    def test_empty(self):
        row = Row()
        row.settle(str)
        self.assertEqual(row, Row())


class TrialTests(HeadsCase):
    def test_what_was_done_stays(self):
        row = Row([1, 2])
        with row.trial() as held:
            self.assertIs(held, row)
            held[0] = 0
            row += [7]
        self.assertEqual(row.ranks(), [0, 2, 7])

    def test_taken_back(self):
        row = Row([1, 2])
        with self.assertRaises(KeyError):
            with row.trial() as held:
                held += [3]
                held[0] = 0
                held.settle(lambda item: 0)
                raise KeyError("out")
        self.assertEqual(row.ranks(), [1, 2])

    def test_as_when_the_block_began(self):
        row = Row([1, 2])
        trial = row.trial()
        row[0] = 0
        with self.assertRaises(Disordered):
            with trial:
                row[1] = 5
                row[0] = 9
        self.assertEqual(row.ranks(), [0, 2])

    def test_nested(self):
        row = Row([1])
        with row.trial():
            row += [2]
            try:
                with row.trial() as held:
                    held += [3]
                    raise KeyError("inner")
            except KeyError:
                pass
            row += [4]
        self.assertEqual(row.ranks(), [1, 2, 4])
        with self.assertRaises(KeyError):
            with row.trial():
                with row.trial():
                    row += [5]
                raise KeyError("outer")
        self.assertEqual(row.ranks(), [1, 2, 4])

    def test_attempt(self):
        row = Row([1, 2])

        def deed(held):
            self.assertIs(held, row)
            held[1] = 3
            return "told"

        self.assertEqual(row.attempt(deed), "told")
        self.assertEqual(row.ranks(), [1, 3])

        def wrong(held):
            held[0] = 0
            held[1] = None

        self.raises(BadItem, {"part": 1}, row.attempt, wrong)
        self.assertEqual(row.ranks(), [1, 3])
        self.assertIsNone(row.attempt(deed=lambda held: None))

    def test_nested_attempts(self):
        row = Row([1])

        def inner(held):
            held[0] = 5
            raise KeyError("inner")

        def outer(held):
            held[0] = 3
            try:
                held.attempt(inner)
            except KeyError:
                return held.ranks()

        self.assertEqual(row.attempt(outer), [3])
        self.assertEqual(row.ranks(), [3])


if __name__ == "__main__":
    unittest.main()
