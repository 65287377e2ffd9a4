"""Claims and blocks judged by runs on rows alone, straight from their definitions."""

from model import Ended, Model
from twoheads.items import Item
from twoheads.plays import Play
from twoheads.rows import Row

WORDS = ("inside", "ending", "ordered", "single", "stable", "level", "keeps left", "keeps right",
         "uses left", "uses right", "spares left", "spares right")
SIDES = ("left", "right")


class LongModel(Model):
    """A run that goes round three times instead of falling endless."""

    def __init__(self, *told):
        super().__init__(*told)
        self.times = {}

    def moment(self, line):
        key = (line, tuple(sorted(self.flags)), self.put[-1].rank if self.put else None,
               len(self.rows["left"]), len(self.rows["right"]))
        self.times[key] = self.times.get(key, 0) + 1
        if self.times[key] == 4:
            raise Ended(("endless", line))


def broken(walk, left, right):
    """The words of the claims that the run on two rows of ranks breaks."""
    model = LongModel(walk.parts, [Item(k) for k in left], [Item(k) for k in right])
    _, fall = model.run()
    found = set()
    if fall is not None:
        found.add("ending" if fall[0] == "endless" else "inside")
    rows = {"left": left, "right": right}
    puts = all_puts(model.events)
    for (one, k), (other, j) in zip(puts, puts[1:]):
        before, behind = rows[one][k], rows[other][j]
        if before > behind:
            found.add("ordered")
        if before == behind:
            found.add("single")
            if (one, other) == ("right", "left"):
                found.add("stable")
    if not is_level(model.events, rows):
        found.add("level")
    for side in SIDES:
        numbers = [k for of, k in puts if of == side]
        if numbers:
            found.add(f"spares {side}")
        passed = model.passed[side]
        if fall is None and passed < len(rows[side]):
            found |= {f"uses {side}", f"keeps {side}"}
        if any(numbers.count(k) != 1 for k in range(passed)) or any(numbers.count(k) > 1 for k in numbers):
            found.add(f"keeps {side}")
    return found


def all_puts(events):
    """The items that are put, one by one, as pairs (side, index)."""
    found = []
    for event in events:
        if event[0] == "put":
            found.append((event[2], event[3]))
        if event[0] == "pairs":
            _, _, side, i, j, m, n = event
            own, others, first = (m, n, i) if side == "left" else (n, m, j)
            found.extend((side, first + k) for k in range(own) for _ in range(others))
    return found


def is_level(events, rows):
    at = {"left": 0, "right": 0}
    for event in events:
        if event[0] in ("put", "step"):
            other = "right" if event[2] == "left" else "left"
            if at[other] < len(rows[other]) and rows[event[2]][event[3]] > rows[other][at[other]]:
                return False
        if event[0] == "step":
            at[event[2]] += 1
        if event[0] == "pairs":
            at = {"left": at["left"] + event[5], "right": at["right"] + event[6]}
    return True


def dense_pairs(total):
    """All pairs of rows of so many items together, with the ranks 0, 1, 2 and so on."""
    if total == 0:
        return [((), ())]
    found = []
    for many in range(1, total + 1):
        for m in range(many + 1):
            for left, right in dense_pairs(total - many):
                found.append(((0,) * m + tuple(k + 1 for k in left),
                              (0,) * (many - m) + tuple(k + 1 for k in right)))
    return found


def is_dense(left, right):
    """Whether these are rows whose ranks are 0, 1, 2 and so on without gaps."""
    ranks = sorted(set(left + right))
    return list(left) == sorted(left) and list(right) == sorted(right) and ranks == list(range(len(ranks)))


class Blocks:
    """Blocks done by runs on rows: each reached entry is kept with rows that lead to it."""

    def __init__(self, walk, most=5):
        self.walk = walk
        self.ways = {((0, ()), *ahead): ((), ()) for ahead in ((True, True), (True, False), (False, True))}
        waiting = list(self.ways)
        while waiting:
            entry = waiting.pop(0)
            for block in fitting_blocks(entry, most):
                _, mode = self.done(entry, block)
                after = (mode, *block[2:])
                if mode is not None and after not in self.ways:
                    self.ways[after] = self.rows(entry, block)
                    waiting.append(after)

    def rows(self, entry, block):
        """The rows that lead to an entry, and on to behind a block."""
        left, right = self.ways[entry]
        value = len(set(left + right))
        return left + (value,) * block[0], right + (value,) * block[1]

    def play_to(self, entry, block):
        """A play that has come to an entry, and the cursors behind the block."""
        left, right = self.rows(entry, block)
        value = max(left + right)
        play = Play(self.walk, Row(left + (value + 1,) * block[2]), Row(right + (value + 1,) * block[3]))
        first = tuple(len(row) for row in self.ways[entry])
        while play.cursors != first:
            play.do()
        return play, (len(left), len(right))

    def done(self, entry, block):
        """The number of items put in a block, and the mode behind it."""
        play, goal = self.play_to(entry, block)
        before = len(play.put)
        assert play.stand[:2] == entry[0]
        while not play.over and play.cursors != goal:
            play.do()
        put = play.put[before:]
        assert play.fall is None and len({item.rank for item in put}) <= 1
        if play.cursors != goal or play.over or not (block[2] or block[3]):
            return len(put), None
        return len(put), play.stand[:2]

    def measures(self):
        """The greatest number of steps in a start, all numbers in rings, and the rings of both halves."""
        greatest, numbers, both_rings = 0, set(), []
        for entry, block in [(entry, block) for entry in self.ways for block in long_blocks(entry)]:
            for half, start, ring in self.halves(entry, block):
                greatest = max(greatest, *start)
                numbers |= set(ring)
                if half == "both":
                    both_rings.append((entry[0], *ring))
        return greatest, numbers - {0}, both_rings

    def halves(self, entry, block):
        """The halves of a long block that end or come round, with the steps of start and ring."""
        play, goal = self.play_to(entry, block)
        found, half, path = [], None, []
        before = len(play.put)
        while not play.over and play.cursors != goal:
            remain = [goal[k] - play.cursors[k] for k in (0, 1)]
            now = "both" if all(remain) else "left" if remain[0] else "right"
            if half != now:
                half, path, done = now, [], False
            situation = (*play.stand[:2], len(play.put) > before)
            if not done and situation in [told[0] for told in path]:
                first = [told[0] for told in path].index(situation)
                found.append((half, steps(path[:first]), steps(path[first:])))
                done = True
            path.append((situation, play.do()))
        # The row of a half must not run out while the half is followed.
        if not done and (play.over or path[-1][1][0] == "pairs"):
            found.append((half, steps(path), (0, 0)))
        return found


def steps(path):
    return tuple(sum(event[0] == "step" and event[2] == side for _, event in path) for side in SIDES)


def fitting_blocks(entry, most):
    """All blocks that fit an entry, with at most so many items of each row."""
    _, left, right = entry
    choices = []
    for ahead in (left, right):
        many = [(0, True)] + [(k, more) for k in range(1, most + 1) for more in (False, True)]
        choices.append(many if ahead else [(0, False)])
    return [(m, n, more_left, more_right) for m, more_left in choices[0] for n, more_right in choices[1] if m or n]


def long_blocks(entry, long=30, short=8):
    """Blocks whose halves are long, behind both halves of all short lengths."""
    _, left, right = entry
    found = []
    for more in (False, True):
        if left:
            found.append((long, 0, more, right))
        if right:
            found.append((0, long, left, more))
    if left and right:
        for more_left, more_right in ((False, False), (False, True), (True, False), (True, True)):
            found.append((long, long, more_left, more_right))
            for k in range(1, short):
                found += [(k, long, more_left, more_right), (long, k, more_left, more_right)]
    return found
