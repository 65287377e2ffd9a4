"""Stands: all that walks can know of a moment, and the moves between them."""

from twoheads.errors import Behind
from twoheads.items import is_number
from twoheads.views import View, order_of, with_flag, without_flag
from twoheads.words import SIDES

# Ranks that show each word for the heads, and last items in all places around them: there
# is room between any two of them, so new heads can come into each place, too.
HEADS = {
    "equal": (4, 4), "left": (4, None), "less": (4, 8), "more": (8, 4), "none": (None, None),
    "right": (None, 4),
}
LASTS = (None, 2, 4, 6, 8, 10)
GREATEST = 11
DOUBLES = ((1, 1), (1, 2), (2, 1))


def first_stands(walk):
    """The ascending list of the stands with which a run can begin."""
    return sorted([stand_of(0, View(left, right, None, ())) for left, right in HEADS.values()])


def is_stand(walk, value):
    """Whether any value is a stand that fits the walk."""
    if not isinstance(value, tuple) or len(value) != 5:
        return False
    line, flags, heads, left_last, right_last = value
    if not is_number(line) or not 0 <= line <= len(walk):
        return False
    if not isinstance(flags, tuple) or list(flags) != [flag for flag in walk.flags if flag in flags]:
        return False
    if not isinstance(heads, str) or heads not in HEADS:
        return False
    left, right = HEADS[heads]
    fitting = [(last_word(left, last), last_word(right, last)) for last in LASTS]
    return (left_last, right_last) in fitting


def moves(walk, stand):
    """Yields pairs (event, ascending list of the stands behind it)."""
    for event, behind in moves_at(walk, stand):
        yield event, behind


def stands(walk):
    """The ascending list of all stands that come about."""
    return sorted(list(graph_of(walk)))


def graph_of(walk):
    """A dict from each stand that comes about to the list of its moves."""
    graph = {}
    waiting = first_stands(walk)
    while waiting:
        stand = waiting.pop()
        if stand not in graph:
            graph[stand] = moves_at(walk, stand)
            for _, behind in graph[stand]:
                waiting.extend(behind)
    return graph


def last_in(stand, side):
    """The word of a stand for the last item beside the head of a side."""
    if side == "left":
        return stand[3]
    return stand[4]


def heads_in(stand):
    """How many rows have heads at a stand."""
    return len([side for side in SIDES if last_in(stand, side) != "-"])


def heads_word(left, right):
    """The word for the heads with these ranks, None for a row that is ended."""
    if left is not None and right is not None:
        return order_of(left, right)
    if left is not None:
        return "left"
    if right is not None:
        return "right"
    return "none"


def last_word(head, last):
    """The word for the rank of the last item beside that of a head."""
    if head is None:
        return "-"
    if last is None:
        return "none"
    if last < head:
        return "below"
    if last == head:
        return "equal"
    return "above"


def stand_of(line, view):
    """The stand of a moment at which the walk sees this."""
    left_last = last_word(view.left, view.last)
    right_last = last_word(view.right, view.last)
    return (line, view.raised, heads_word(view.left, view.right), left_last, right_last)


def view_of(stand):
    """A view with ranks that stand as a stand tells."""
    _, raised, heads, left_last, right_last = stand
    left, right = HEADS[heads]
    fitting = [
        last for last in LASTS
        if last_word(left, last) == left_last and last_word(right, last) == right_last
    ]
    return View(left, right, fitting[0], raised)


def moves_at(walk, stand):
    """The list of the pairs (event, stands behind it) of a stand."""
    line = stand[0]
    if line == len(walk):
        return []
    word = walk[line].word
    told = MOVES[word]
    try:
        return told(walk, line, view_of(stand))
    except Behind as fall:
        return [(("behind", line, fall.side), [])]


def branch_moves(walk, line, view):
    """The move of an `if` or a `while`."""
    if_true, if_false = walk.jumps[line]
    truth = walk[line].test(lambda word: view.answer(line, word))
    return [(("test", line, truth), [stand_of(if_true if truth else if_false, view)])]


def put_moves(walk, line, view):
    """The move of a `put`."""
    side = walk[line].side
    view.need(line, side)
    after = View(view.left, view.right, view.seen(side), view.raised)
    return [(("put", line, side), [stand_of(walk.jumps[line][0], after)])]


def step_moves(walk, line, view):
    """The move of a `step`: the row is ended, or its new head stands anywhere above."""
    side = walk[line].side
    view.need(line, side)
    new_heads = [None] + list(range(view.seen(side), GREATEST + 1))
    if side == "left":
        after = [View(head, view.right, view.last, view.raised) for head in new_heads]
    else:
        after = [View(view.left, head, view.last, view.raised) for head in new_heads]
    return [(("step", line, side), all_stands(walk.jumps[line][0], after))]


def pairs_moves(walk, line, view):
    """The moves of a `pairs`: both rows pass the value that it puts."""
    view.need_both(line)
    if view.left != view.right:
        return [(("unlike", line), [])]
    side = walk[line].side
    put = view.left
    new_heads = [None, put + 1, put + 2]
    after = [View(left, right, put, view.raised) for left in new_heads for right in new_heads]
    found = all_stands(walk.jumps[line][0], after)
    return [(("pairs", line, side, m, n), list(found)) for m, n in DOUBLES]


def flag_moves(walk, line, view):
    """The move of a `set` or a `clear`."""
    part = walk[line]
    if part.word == "set":
        raised = with_flag(view.raised, part.flag)
    else:
        raised = without_flag(view.raised, part.flag)
    after = View(view.left, view.right, view.last, raised)
    return [((part.word, line, part.flag), [stand_of(walk.jumps[line][0], after)])]


def jump_moves(walk, line, view):
    """The move of a `break` or a `stop`."""
    return [((walk[line].word, line), [stand_of(walk.jumps[line][0], view)])]


def all_stands(line, views):
    """The ascending list of the stands of a line with these views."""
    return sorted({stand_of(line, view) for view in views})


MOVES = {
    "if": branch_moves, "while": branch_moves, "put": put_moves, "step": step_moves,
    "pairs": pairs_moves, "set": flag_moves, "clear": flag_moves, "break": jump_moves,
    "stop": jump_moves,
}
