"""Loops over two rows that are made by chance, many of them fit."""

from random import Random

from model import Maker
from twoheads.errors import BadWalk, Unfit
from twoheads.fits import need_fit
from twoheads.walks import Walk

BOTH = ("put left\nstep left\nstep right", "step left\nstep right", "put right\nstep right\nstep left",
        "put left\nput right\nstep left\nstep right", "step right\nput left\nstep left", "pairs left",
        "pairs right", "put left\nstep left", "put right\nstep right", "step left", "step right",
        "while left and right and equal\n  put left\n  step left\n  step right",
        "while left and right and equal\n  step left", "while left and right and equal\n  step right",
        "put left\nwhile right and not new right\n  step right\nwhile left and not new left\n  step left",
        "while left and right and equal\n  put left\n  step left\n  if left and right and equal\n    step left\nelse\n"
        "  while right and not new right\n    step right",
        "put left\nwhile left and right and equal\n  step left\n  if left and right and equal\n    step right",
        "step left\nif left and right and equal\n  step left\n  if left and right and equal\n    step left\nstep right",
        "step left\nif left and right and equal\n  step left\n  put right\nstep right\nput right")
ONE = ("put S\nstep S", "step S", "if new S\n  put S\nstep S", "put S\nput S\nstep S",
       "step S\nif S\n  put S\n  step S", "step S\nif S\n  step S", "stop", "break")


class Loops:
    """Makes loops, always the same ones for a seed."""

    def __init__(self, seed):
        self.chance = Random(seed)

    def some(self, text):
        """The rows of a text, perhaps with flags around or within."""
        rows = text.split("\n")
        draw = self.chance.random()
        if draw < 0.2:
            rows = ["if f", *indented(rows), "  clear f", "else", "  set f", *indented(self.one_step(rows))]
        elif draw < 0.35:
            rows.insert(self.chance.randrange(len(rows) + 1) if not any(row.startswith(" ") for row in rows) else 0,
                        self.chance.choice(("set f", "clear f", "set g", "clear g")))
        elif draw < 0.42:
            rows = ["if g", *indented(rows), "else", *indented(rows)]
        return rows

    def one_step(self, rows):
        if self.chance.random() < 0.5:
            return rows
        return [row for row in rows if row.startswith("step")][:1] or rows

    def alone(self, side):
        return self.some(self.chance.choice(ONE[:6] if self.chance.random() < 0.95 else ONE).replace("S", side))

    def text(self):
        """The text of a loop."""
        rows = ["while left and right", "  if less", *indented(self.alone("left"), 2), "  elif more",
                *indented(self.alone("right"), 2), "  else", *indented(self.some(self.chance.choice(BOTH)), 2)]
        for side in self.chance.sample(("left", "right"), 2):
            draw = self.chance.random()
            if draw < 0.55:
                rows += [f"while {side}", *indented(self.alone(side))]
            elif draw < 0.65:
                rows += [f"if {side}", *indented(self.alone(side))]
        return "\n".join(rows)

    def walk(self):
        """A walk of such a text, or None if there is too much in it."""
        try:
            return Walk.read(self.text())
        except BadWalk:
            return None


def indented(rows, times=1):
    return ["  " * times + row for row in rows]


def fit_walks(first, behind):
    """The fit walks among the loops of some seeds."""
    found = []
    for walk in [Loops(seed).walk() for seed in range(first, behind)]:
        try:
            if walk is not None:
                need_fit(walk)
                found.append(walk)
        except Unfit:
            pass
    return found


def walks_by_chance(first, behind, most=5):
    """Loops, and walks that need not be fit, of some seeds; those of at most so many outermost statements."""
    found = [walk for walk in [Loops(seed).walk() for seed in range(first, behind)] if walk is not None]
    for seed in range(first, behind):
        try:
            found.append(Walk(*Maker(seed).block(0, False, most)))
        except BadWalk:
            pass
    return found
