"""Rows that are made on the way from stand to stand."""

from twoheads.stands import last_in
from twoheads.words import exchanged


class Spread:
    """Two rows on which a run comes from a first stand to others, as far as they are in sight.

    A point is a number that stands for a rank; `order` has all points in the order of their
    ranks. A new point is put between others, so there is always room; the ranks come at last.
    """

    def __init__(self, stand):
        self.order = []
        self.made = {"left": [], "right": []}
        self.last = None
        self.see_both(stand[2], None)

    def go(self, event, after):
        """Goes on to a stand that is behind an event."""
        if event[0] == "put":
            self.last = self.made[event[2]][-1]
        elif event[0] == "step":
            self.see_one(event[2], after)
        elif event[0] == "pairs":
            self.double(event)
            self.last = self.made["left"][-1]
            self.see_both(after[2], self.last)

    def double(self, event):
        """Brings the doubles of the heads into sight that pairs pass."""
        for side, many in (("left", event[3]), ("right", event[4])):
            self.made[side].extend([self.made[side][-1]] * (many - 1))

    def see_both(self, heads, lower):
        """Brings the heads of both rows into sight, above a point or, if that is None, ahead of all."""
        if heads == "none":
            return
        least = self.point_above(lower)
        if heads in ("left", "equal", "less"):
            self.made["left"].append(least)
        if heads in ("right", "equal", "more"):
            self.made["right"].append(least)
        if heads == "less":
            self.made["right"].append(self.point_above(least))
        if heads == "more":
            self.made["left"].append(self.point_above(least))

    def see_one(self, side, after):
        """Brings the next head of a side into sight, if there is one."""
        near_last = last_in(after, side)
        if near_last == "-":
            return
        heads = after[2] if side == "left" else exchanged(after[2])
        other = self.made[exchanged(side)]
        if heads == "equal":
            self.made[side].append(other[-1])
        elif near_last == "equal":
            self.made[side].append(self.last)
        else:
            lower = [self.made[side][-1]]
            if heads == "more":
                lower.append(other[-1])
            if near_last == "below":
                lower.append(self.last)
            self.made[side].append(self.point_above(self.greatest(lower)))

    def greatest(self, points):
        """The greatest of some points."""
        return self.order[max([self.order.index(point) for point in points])]

    def point_above(self, lower):
        """A new point directly above another one, or, if that is None, ahead of all."""
        point = len(self.order)
        at = 0 if lower is None else self.order.index(lower) + 1
        self.order.insert(at, point)
        return point

    def ranked(self):
        """The pair of the rows, as tuples of the ranks 0, 1, 2 and so on."""
        ranks = {point: rank for rank, point in enumerate(self.order)}
        left = [ranks[point] for point in self.made["left"]]
        right = [ranks[point] for point in self.made["right"]]
        return tuple(left), tuple(right)


def spread_on(stand, way):
    """The spread of a way from a first stand on, told as pairs (event, stand behind it)."""
    spread = Spread(stand)
    for event, after in way:
        spread.go(event, after)
    return spread
