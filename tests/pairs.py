"""What walks put on rows of ranks, told by the second way to run walks."""

from judge import dense_pairs
from model import Model
from twoheads.items import Item
from twoheads.walks import Walk

NAMES = ("sum", "union", "both", "lacks", "xor", "join")


def modelled(walk, left, right):
    """The second way to run a walk, done to the end or the fall."""
    model = Model(walk.parts, [Item(k) for k in left], [Item(k) for k in right])
    model.run()
    return model


def ranks(walk, left, right):
    """The ranks that a walk puts on two rows of ranks."""
    return [item.rank for item in modelled(walk, left, right).put]


def short_pairs(most):
    """All pairs of rows of at most so many items, the shortest ones first."""
    return [pair for total in range(most + 1) for pair in dense_pairs(total)]


def drawn_row(chance, most, rank):
    return sorted(chance.randint(0, rank) for _ in range(chance.randint(0, most)))


ALL_LEFT = "while left\n  if right and more\n    step right\n  else\n    put left\n    step left"


def capped(most):
    """A walk that puts, of each value, at most so many left items (1 to 4), and no right ones."""
    rows = ["if new left", "  put left"]
    if most > 1:
        rows = ["if new left", "  clear f", "  clear g", "  put left"]
    for test, act in (("not f and not g", "set f"), ("f and not g", "set g"), ("f and g", "clear f"))[:most - 1]:
        rows += [f"elif {test}", "  put left", f"  {act}"]
    text = "while left\n  if right and more\n    step right\n  else\n" + "\n".join("    " + row for row in rows)
    return Walk.read(text + "\n    step left")
