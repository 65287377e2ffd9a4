import unittest

from helpers import ODD_VALUES, HeadsCase
from twoheads.errors import BadItem
from twoheads.items import Item
from twoheads.rows import Row


class ItemTests(HeadsCase):
    def test_made(self):
        item = Item(5, "ab")
        self.same_kinds([item.rank, item.name], [5, "ab"])
        self.same_kinds([Item(5).rank, Item(5).name], [5, ""])
        item = Item(name="z", rank=-3)
        self.same_kinds([item.rank, item.name], [-3, "z"])

    def test_ranks_at_the_edge(self):
        for rank in (10 ** 30 - 1, 1 - 10 ** 30, 10 ** 29, 0, -1):
            self.assertEqual(Item(rank).rank, rank)
        for rank in (10 ** 30, -(10 ** 30), 10 ** 59, -(10 ** 59)):
            self.raises(BadItem, {"part": "rank"}, Item, rank)

    def test_wrong_ranks(self):
        for rank in (None, True, False, "1", (1,), [1], {1: 1}, Item(1), Row([1]), b"1"):
            self.raises(BadItem, {"part": "rank"}, Item, rank)
            self.raises(BadItem, {"part": "rank"}, Item, rank, "ok")

    def test_names_at_the_edge(self):
        for name in ("", "a", "z", "abcdefgh", "none", "left"):
            self.assertEqual(Item(1, name).name, name)
        for name in ("abcdefghi", "A", "aB", "a1", "a b", " a", "a\n", "\n", "a" * 6000, "{", "`"):
            self.raises(BadItem, {"part": "name"}, Item, 1, name)

    def test_wrong_names(self):
        for name in ODD_VALUES:
            if name not in ("", "a", "left"):
                self.raises(BadItem, {"part": "name"}, Item, 1, name)
        self.raises(BadItem, {"part": "name"}, Item, 1, ("a", "b"))

    def test_rank_ahead_of_name(self):
        self.raises(BadItem, {"part": "rank"}, Item, None, None)
        self.raises(BadItem, {"part": "rank"}, Item, True, "A")

    def test_equal_by_rank_alone(self):
        self.assertIs(Item(1, "a") == Item(1, "b"), True)
        self.assertIs(Item(1, "a") != Item(1, "b"), False)
        self.assertIs(Item(1, "a") == Item(2, "a"), False)
        self.assertIs(Item(-7) == Item(-7), True)

    def test_equals_nothing_of_another_kind(self):
        for value in (1, True, "1", (1,), [1], None, 1 + 0j, Row([1]), {"rank": 1}):
            self.assertIs(Item(1) == value, False)
            self.assertIs(value == Item(1), False)
            self.assertIs(Item(1) != value, True)

    def test_order(self):
        self.assertIs(Item(1, "z").before(Item(2, "a")), True)
        self.assertIs(Item(2, "a").before(Item(1, "z")), False)
        self.assertIs(Item(1, "a").before(other=Item(1, "b")), False)
        self.assertIs(Item(-(10 ** 29)).before(Item(-1)), True)

    def test_same(self):
        self.assertIs(Item(1, "a").same(Item(1, "a")), True)
        self.assertIs(Item(1, "a").same(other=Item(1, "b")), False)
        self.assertIs(Item(1, "a").same(Item(2, "a")), False)
        self.assertIs(Item(1).same(Item(1, "")), True)

    def test_text(self):
        self.assertEqual([str(Item(0)), str(Item(-12, "ab")), str(Item(7, "x"))], ["0", "-12ab", "7x"])
        self.assertEqual(str(Item(10 ** 30 - 1, "abcdefgh")), "9" * 30 + "abcdefgh")


if __name__ == "__main__":
    unittest.main()
