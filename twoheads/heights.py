"""Heights: the greatest excess from each stand on, or a ring on which the excess grows."""


class Heights:
    """The heights of the stands of a graph, told by going over all of them until nothing grows.

    `ways` has, for each stand, the list of its ways on: triples (gain, event, stand behind it).
    `height` is what was found so far, and `choice` the way on that it was found by, None where
    a run ends or falls. `ring` is a list of stands on which the choices go round, and then the
    heights have no bound; else it is empty.
    """

    def __init__(self, graph, scale):
        self.scale = scale
        self.ways = {}
        self.height = {}
        self.choice = {}
        self.ring = []
        # Most ways on lead to later lines, so what is behind a stand mostly comes ahead of it.
        for stand in sorted(list(graph), reverse=True):
            self.ways[stand] = ways_on(scale, stand, graph[stand])
            if not self.ways[stand]:
                self.height[stand] = scale.counted(stand)
                self.choice[stand] = None
        while not self.ring and self.is_growing():
            self.ring = self.chosen_ring()

    def is_growing(self):
        """Goes once over all stands; whether a height was found or is greater than before."""
        is_growing = False
        for stand, ways in self.ways.items():
            for gain, event, after in ways:
                if after in self.height and self.is_less(stand, gain + self.height[after]):
                    self.height[stand] = gain + self.height[after]
                    self.choice[stand] = (gain, event, after)
                    is_growing = True
        return is_growing

    def is_less(self, stand, height):
        """Whether a stand has no such height so far."""
        return stand not in self.height or self.height[stand] < height

    def chosen_ring(self):
        """The list of the stands of a ring of choices, empty if there is none.

        A choice told the height of its stand by the one behind it, which may have grown since
        then. The choice of a ring that was made last let its own stand grow behind an earlier
        one: so more is gained on the ring than nothing.
        """
        done = {}
        for first in self.choice:
            path = {}
            stand = first
            while stand is not None and stand not in done and stand not in path:
                path[stand] = len(path)
                stand = self.behind(stand)
            if stand in path:
                return list(path)[path[stand]:]
            for stand in path:
                done[stand] = True
        return []

    def behind(self, stand):
        """The stand behind the choice of a stand, or None."""
        choice = self.choice[stand]
        return None if choice is None else choice[2]

    def top(self, first):
        """The greatest excess of the runs that begin with some stands, and the stand of one that has it."""
        return max([(self.height[stand] - self.scale.heads_weight(stand), stand) for stand in first])

    def chosen_way(self, stand):
        """The list of pairs (event, stand behind it) from a stand to the end, by the choices."""
        found = []
        while self.choice[stand] is not None:
            _, event, stand = self.choice[stand]
            found.append((event, stand))
        return found

    def ring_way(self):
        """The list of pairs (event, stand behind it) once around the ring."""
        return [(self.choice[stand][1], self.choice[stand][2]) for stand in self.ring]


def ways_on(scale, stand, told):
    """The list of the ways on from a stand with these moves."""
    return [(scale.gained(stand, event, after), event, after) for event, behind in told for after in behind]
