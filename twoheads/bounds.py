"""How much a walk does at most, told by the numbers of items in both rows."""

from twoheads.errors import BadName, Unfit
from twoheads.fits import is_kept
from twoheads.gains import COUNTS, Scale
from twoheads.heights import Heights, ways_on
from twoheads.items import is_number
from twoheads.searches import stand_ways
from twoheads.spreads import spread_on
from twoheads.stands import first_stands, graph_of, is_stand, moves_at


class Bound:
    """The base class of answers to whether a count is bounded."""

    def __bool__(self):
        return isinstance(self, Bounded)


class Bounded(Bound):
    """The greatest excess is c: heights show that none is greater, two rows that one is so great."""

    def __init__(self, c, heights, left, right):
        self.c = c
        self.heights = heights
        self.left = left
        self.right = right

    def __bool__(self):
        return True


class Growing(Bound):
    """The excess grows without end, by `gain` with each round of a ring of stands."""

    def __init__(self, ring, gain):
        self.ring = ring
        self.gain = gain

    def __bool__(self):
        return False


def bound(walk, count, a, b):
    """Bounded with the greatest excess, or Growing with a ring on which it grows."""
    graph = countable_graph(walk, count)
    scale = Scale(walk, count, a, b)
    heights = Heights(graph, scale)
    if heights.ring:
        return Growing(tuple(heights.ring), scale.gain_on(heights.ring[0], heights.ring_way()))
    c, first = heights.top(first_stands(walk))
    left, right = spread_on(first, heights.chosen_way(first)).ranked()
    return Bounded(c, tuple(sorted(heights.height.items())), left, right)


def countable_graph(walk, count):
    """The stands that come about, with their moves; raises an error if the count cannot be bounded."""
    if count not in COUNTS:
        raise BadName(count)
    graph = graph_of(walk)
    if not is_kept(graph, "ending"):
        raise Unfit("ending")
    if count == "puts" and "pairs" in [walk[line].word for line in range(len(walk))]:
        raise Unfit("pairs")
    return graph


def is_bounded(walk, count, a, b, c, heights):
    """Whether heights show that a count is at most a M + b N + c for all rows."""
    countable_graph(walk, count)
    scale = Scale(walk, count, a, b)
    if not isinstance(heights, (list, tuple)) or not all([is_height(walk, pair) for pair in heights]):
        return False
    found = {stand: height for stand, height in heights}
    if len(found) != len(heights):
        return False
    for stand in first_stands(walk):
        if stand not in found or found[stand] - scale.heads_weight(stand) > c:
            return False
    return all([is_high_enough(walk, scale, found, stand) for stand in found])


def is_height(walk, value):
    """Whether any value is a pair of a stand of the walk and an integer."""
    return isinstance(value, tuple) and len(value) == 2 and is_stand(walk, value[0]) and is_number(value[1])


def is_high_enough(walk, scale, found, stand):
    """Whether the height of a stand is no less than what is counted there and made behind it."""
    ways = ways_on(scale, stand, moves_at(walk, stand))
    if not ways:
        return found[stand] >= scale.counted(stand)
    return all([after in found and found[stand] >= gain + found[after] for gain, _, after in ways])


def above(walk, count, a, b, c):
    """A pair of rows on which the excess is greater than c, or None."""
    graph = countable_graph(walk, count)
    scale = Scale(walk, count, a, b)
    heights = Heights(graph, scale)
    if heights.ring:
        first, way = growing_way(walk, graph, heights, c)
    else:
        most, first = heights.top(first_stands(walk))
        if most <= c:
            return None
        way = heights.chosen_way(first)
    return spread_on(first, way).ranked()


def growing_way(walk, graph, heights, c):
    """A first stand and a way from it on which the excess becomes greater than c.

    The rows have no items behind it, so what is done there only adds to the count.
    """
    scale = heights.scale
    first, to_ring = stand_ways(graph, first_stands(walk)).way_to(heights.ring[0])
    rounds = heights.ring_way()
    gain = scale.gain_on(heights.ring[0], rounds)
    lacking = c + 1 + scale.heads_weight(first) - scale.gain_on(first, to_ring)
    many = max(0, (lacking + gain - 1) // gain)
    return first, to_ring + rounds * many
