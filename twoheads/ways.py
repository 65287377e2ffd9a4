"""Shortest ways from place to place, found in the order of their lengths."""

from heapq import heappop, heappush


class Ways:
    """The shortest ways to places; `taken` has, for each place, its length and its last step.

    A last step is a pair of the place before, None for a first place, and what led on from it.
    """

    def __init__(self):
        self.waiting = []
        self.offers = []
        self.taken = {}

    def offer(self, length, place, before, led):
        """Keeps a way to a place until all shorter ways are taken."""
        heappush(self.waiting, (length, len(self.offers)))
        self.offers.append((place, before, led))

    def take(self):
        """The next place by length, or None behind the last one; each place is taken just once."""
        while self.waiting:
            length, number = heappop(self.waiting)
            place, before, led = self.offers[number]
            if place not in self.taken:
                self.taken[place] = (length, before, led)
                return place
        return None

    def length(self, place):
        """The length of the shortest way to a place that is taken."""
        return self.taken[place][0]

    def way_to(self, place):
        """The first place of the shortest way, and the list of pairs (what led on, next place)."""
        found = []
        _, before, led = self.taken[place]
        while before is not None:
            found.append((led, place))
            place = before
            _, before, led = self.taken[place]
        found.reverse()
        return place, found
