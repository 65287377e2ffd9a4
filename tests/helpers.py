"""What several tests need."""

import unittest

from twoheads.items import Item
from twoheads.rows import Row

ODD_VALUES = (None, True, False, "", "a", "left", (), (1,), (False, "left"), [], [1], {}, {"a": 1},
              10 ** 30, -(10 ** 30), 10 ** 59, b"a", ((), ()), Item(1), Row([1]))


class HeadsCase(unittest.TestCase):
    def raises(self, kind, fields, deed, *values):
        """Checks that a call raises an error of just this class with these fields."""
        with self.assertRaises(kind) as caught:
            deed(*values)
        error = caught.exception
        self.assertIs(error.__class__, kind)
        self.same_kinds([getattr(error, name) for name in fields], list(fields.values()))

    def same_kinds(self, found, wanted):
        """Checks that values are equal and of equal kinds, their parts too."""
        self.assertEqual(found, wanted)
        self.assertEqual(repr(found), repr(wanted))


def told(items):
    """The texts of items."""
    return [str(item) for item in items]


def named(*texts):
    """A list of items told by texts like 2a."""
    found = []
    for text in texts:
        digits = text.rstrip("abcdefghijklmnopqrstuvwxyz")
        found.append(Item(int(digits), text[len(digits):]))
    return found
