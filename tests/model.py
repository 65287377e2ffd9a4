"""A second, plain way to run walks: by recursion over the statements, word by word.

It shares nothing with the program but the statements themselves, and tells each moment.
"""

from random import Random

from twoheads.asking import Test
from twoheads.parts import Break, Clear, If, Pairs, Put, Set, Step, Stop, While


class Left(Exception):
    """A `break` is on its way."""


class Ended(Exception):
    """A run ends, or falls with the told fall."""


def sized(part):
    if isinstance(part, (If, While)):
        return 1 + sum(map(sized, part.block)) + sum(map(sized, part.other))
    return 1


class Model:
    def __init__(self, parts, left, right):
        self.parts = parts
        self.rows = {"left": list(left), "right": list(right)}
        self.put = []
        self.flags = set()
        self.met = set()
        self.moments = []
        self.events = []
        self.seen = []
        self.passed = {"left": 0, "right": 0}
        self.compares = 0
        self.end = sum(map(sized, parts))

    def run(self):
        """The items put and the fall, None if the run ends."""
        fall = None
        try:
            self.block(self.parts, 0)
        except Ended as ended:
            fall = ended.args[0] if ended.args else None
        if fall is None:
            self.see(self.end)
        else:
            self.events.append(fall)
            self.see(None)
        return self.put, fall

    def block(self, parts, line):
        for part in parts:
            self.statement(part, line)
            line += sized(part)

    def statement(self, part, line):
        self.moment(line)
        if isinstance(part, While):
            while self.test(part.test, line):
                try:
                    self.block(part.block, line + 1)
                except Left:
                    return
                self.moment(line)
            self.block(part.other, line + 1 + sum(map(sized, part.block)))
        elif isinstance(part, If):
            if self.test(part.test, line):
                self.block(part.block, line + 1)
            else:
                self.block(part.other, line + 1 + sum(map(sized, part.block)))
        else:
            self.act(part, line)

    def act(self, part, line):
        if isinstance(part, Put):
            self.put.append(self.head(part.side, line))
            self.events.append(("put", line, part.side, self.passed[part.side]))
        elif isinstance(part, Step):
            self.head(part.side, line)
            self.rows[part.side].pop(0)
            self.events.append(("step", line, part.side, self.passed[part.side]))
            self.passed[part.side] += 1
            self.met.clear()
        elif isinstance(part, Pairs):
            self.pairs(part.side, line)
        elif isinstance(part, Set):
            self.flags.add(part.flag)
            self.events.append(("set", line, part.flag))
        elif isinstance(part, Clear):
            self.flags.discard(part.flag)
            self.events.append(("clear", line, part.flag))
        elif isinstance(part, Break):
            self.events.append(("break", line))
            raise Left
        elif isinstance(part, Stop):
            self.events.append(("stop", line))
            raise Ended

    def pairs(self, side, line):
        rank = self.head("left", line).rank
        if self.head("right", line).rank != rank:
            raise Ended(("unlike", line))
        taken = {}
        for name, row in self.rows.items():
            taken[name] = [item for item in row if item.rank == rank]
            self.rows[name] = row[len(taken[name]):]
        other = "right" if side == "left" else "left"
        for item in taken[side]:
            self.put.extend([item] * len(taken[other]))
        many = {name: len(items) for name, items in taken.items()}
        self.events.append(("pairs", line, side, self.passed["left"], self.passed["right"],
                            many["left"], many["right"]))
        for name in many:
            self.passed[name] += many[name]
        self.met.clear()

    def head(self, side, line):
        if not self.rows[side]:
            raise Ended(("behind", line, side))
        return self.rows[side][0]

    def test(self, test, line):
        truth = self.truth(test, line)
        self.events.append(("test", line, truth))
        return truth

    def truth(self, test, line):
        for case in test.cases:
            truth = True
            for is_not, word in case:
                if self.word(word, line) == is_not:
                    truth = False
                    break
            if truth:
                return True
        return False

    def word(self, word, line):
        if word in ("left", "right"):
            return bool(self.rows[word])
        if word in ("less", "equal", "more"):
            left, right = self.head("left", line).rank, self.head("right", line).rank
            self.compares += 1
            return {"less": left < right, "equal": left == right, "more": left > right}[word]
        if word.startswith("new "):
            rank = self.head(word.split()[1], line).rank
            self.compares += 1
            return not self.put or self.put[-1].rank != rank
        return word in self.flags

    def stand(self, line):
        left, right = [self.rows[side][0].rank if self.rows[side] else None for side in ("left", "right")]
        if left is None or right is None:
            heads = {(True, True): "none", (False, True): "left", (True, False): "right"}[
                left is None, right is None]
        else:
            heads = "less" if left < right else "more" if left > right else "equal"
        words = []
        for head in (left, right):
            if head is None:
                words.append("-")
            elif not self.put:
                words.append("none")
            else:
                last = self.put[-1].rank
                words.append("below" if last < head else "above" if last > head else "equal")
        return (line, tuple(sorted(self.flags)), heads, *words)

    def moment(self, line):
        key = (line, tuple(sorted(self.flags)), self.put[-1].rank if self.put else None)
        self.see(line)
        if key in self.met:
            raise Ended(("endless", line))
        self.met.add(key)

    def see(self, line):
        """Keeps what a play tells of this moment; no line behind a fall."""
        stand = None
        if line is not None:
            stand = self.stand(line)
            self.moments.append(stand)
        self.seen.append({
            "stand": stand, "put": list(self.put), "flags": tuple(sorted(self.flags)),
            "cursors": (self.passed["left"], self.passed["right"]), "compares": self.compares,
            "over": line in (None, self.end),
        })


WORDS = ("left", "right", "less", "equal", "more", "new left", "new right", "f", "g")


class Maker:
    """Makes statements by chance, always the same ones for a seed."""

    def __init__(self, seed):
        self.chance = Random(seed)

    def test(self, most=2):
        cases = []
        for _ in range(self.chance.randint(1, most)):
            words = [self.chance.choice(WORDS) for _ in range(self.chance.randint(1, most))]
            cases.append(tuple((self.chance.random() < 0.4, word) for word in words))
        return Test(*cases)

    def block(self, depth, looped, many=3):
        return [self.part(depth, looped) for _ in range(self.chance.randint(1, many))]

    def part(self, depth, looped):
        kind = self.chance.choice("pppsssssrxcbe" + "iiwww" * (depth < 3))
        side = self.chance.choice(("left", "right"))
        flag = self.chance.choice("fg")
        if kind == "i":
            other = self.block(depth + 1, looped) if self.chance.random() < 0.6 else ()
            return If(self.test(), self.block(depth + 1, looped), other)
        if kind == "w":
            other = self.block(depth + 1, looped, 2) if self.chance.random() < 0.3 else ()
            return While(self.test(), self.block(depth + 1, True), other)
        if kind == "b" and looped:
            return Break()
        if kind == "e" and self.chance.random() < 0.3:
            return Stop()
        return {"p": Put(side), "s": Step(side), "r": Pairs(side), "x": Set(flag), "c": Clear(flag),
                "b": Put(side), "e": Step(side)}[kind]

    def row(self, most=4, rank=3):
        return sorted(self.chance.randint(0, rank) for _ in range(self.chance.randint(0, most)))


TESTS = (
    "left and right and less and not f or left and right and more and not g or "
    "f and g and not left and right or left and not right and not f and not g",
    "left and right and equal and f or left and new left and not g and f or "
    "right and new right and not f and g or f and g and left and not right",
    "left and right and less and new left or left and not right and f and not g or "
    "f and not left and not right and g or left and right and not more and not f",
    "left and not f and new left and not g or left and f and g and new left or "
    "right and left and not less and f or right and not left and g and f",
)

# 24 statements, six deep, two flags, and tests of four cases of four words.
GREATEST = """while left or right
  if {0}
    set f
    while {1}
      if {2}
        if {3}
          step left
        elif {0}
          put left
          step left
        else
          clear f
          break
      elif {3}
        set g
      else
        step left
  elif {2}
    put left
    clear g
    step left
  elif right
    put right
    set g
    step right
  else
    stop""".format(*TESTS)
