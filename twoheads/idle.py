"""What never matters: lines that are never done, and tests that always answer the same."""

from twoheads.searches import stand_ways
from twoheads.spreads import spread_on
from twoheads.stands import first_stands, graph_of


def idle(walk):
    """The ascending list of pairs (line, word) of the lines that never matter."""
    graph = graph_of(walk)
    lines = {stand[0]: True for stand in graph}
    truths = {}
    for told in graph.values():
        for event, _ in told:
            if event[0] == "test":
                truths.setdefault(event[1], {})[event[2]] = True
    found = []
    for line in range(len(walk)):
        if line not in lines:
            found.append((line, "dead"))
        elif len(truths.get(line, {})) == 1:
            found.append((line, "true" if True in truths[line] else "false"))
    return found


def outcome_rows(walk, line, truth=None):
    """A shortest pair of rows on which a run comes to a line, and its test has a truth; or None."""
    graph = graph_of(walk)
    ways = stand_ways(graph, first_stands(walk))
    # Stands are taken by the items in sight, so the first one has the shortest rows.
    for stand in ways.taken:
        if stand[0] == line and (truth is None or is_outcome(graph[stand], truth)):
            first, way = ways.way_to(stand)
            return spread_on(first, way).ranked()
    return None


def is_outcome(told, truth):
    """Whether a test is asked by the moves of a stand, and has a truth."""
    return [(event[0], event[2]) for event, _ in told if event[0] == "test"] == [("test", truth)]
