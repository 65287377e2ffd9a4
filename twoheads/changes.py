"""Changes of walks: other statements in the place of one line."""

from twoheads.asking import Test
from twoheads.errors import BadTest, BadWalk
from twoheads.parts import Branch, If, Sided, While, size_of_all
from twoheads.readers import read_parts
from twoheads.walks import Walk
from twoheads.words import ORDERS, SIDES

ACTS = ("put left", "put right", "step left", "step right")


def with_parts(parts, line, new):
    """The list of the statements of a block in which new ones take the place of a line.

    Lines are counted from the first one of the block.
    """
    found = []
    for part in parts:
        if line == 0:
            found.extend(new)
        elif 0 < line < part.size:
            found.append(with_inner_parts(part, line - 1, new))
        else:
            found.append(part)
        line = line - part.size
    return found


def with_inner_parts(part, line, new):
    """A statement in whose blocks new ones take the place of a line, counted behind the statement."""
    many = size_of_all(part.block)
    if line < many:
        return branch_like(part, part.test, with_parts(part.block, line, new), part.other)
    return branch_like(part, part.test, part.block, with_parts(part.other, line - many, new))


def branch_like(part, test, block, other):
    """An `if` or a `while`, as a statement is one, with these parts."""
    if part.word == "if":
        return If(test, block, other)
    return While(test, block, other)


def changed(walk, line, new):
    """The walk in which new statements take the place of a line."""
    parts = with_parts(walk.parts, line, new)
    return Walk(*parts)


def block_places(walk):
    """A dict from each line to a pair: whether it is the last one of its block, and the only one."""
    found = {}
    waiting = [(walk.parts, 0)]
    while waiting:
        block, line = waiting.pop()
        for k, part in enumerate(block):
            found[line] = (k == len(block) - 1, len(block) == 1)
            if isinstance(part, Branch):
                waiting.append((part.block, line + 1))
                waiting.append((part.other, line + 1 + size_of_all(part.block)))
            line = line + part.size
    return found


def offered_edits(walk):
    """The list of the edits of a walk, with those whose result is no walk."""
    found = []
    places = block_places(walk)
    for line in range(len(walk)):
        is_last, is_only = places[line]
        found.extend([("ahead", line, act) for act in ACTS])
        if is_last:
            found.extend([("behind", line, act) for act in ACTS])
        if not is_only:
            found.append(("drop", line))
        found.extend(edits_within(walk[line], line))
    return found


def edits_within(part, line):
    """The list of the edits that change a statement itself."""
    guards = [("guard", line, side) for side in SIDES]
    if isinstance(part, Sided):
        return [*guards, ("turn", line)]
    if not isinstance(part, Branch):
        return []
    order = order_asked(part)
    return guards + [("word", line, word) for word in ORDERS if order is not None and word != order]


def order_asked(part):
    """The word `less`, `equal` or `more` if it is the only one of a test, else None."""
    if len(part.test.cases) > 1 or len(part.test.cases[0]) > 1:
        return None
    _, word = part.test.cases[0][0]
    return word if word in ORDERS else None


def edited_or_none(walk, edit):
    """The walk that an offered edit makes, or None if the result is no walk."""
    line = edit[1]
    try:
        return changed(walk, line, edited_parts(walk[line], edit))
    except (BadTest, BadWalk):
        return None


def edited_parts(part, edit):
    """The list of the statements that an edit puts in the place of a statement."""
    word = edit[0]
    if word == "drop":
        return []
    if word == "turn":
        return [part.turned()]
    if word == "ahead":
        return [*read_parts(edit[2]), part]
    if word == "behind":
        return [part, *read_parts(edit[2])]
    if word == "guard":
        return [guarded(part, edit[2])]
    is_not, _ = part.test.cases[0][0]
    return [branch_like(part, Test(((is_not, edit[2]),)), part.block, part.other)]


def guarded(part, side):
    """A statement that is done, or whose test is asked, only if a row is not ended."""
    if isinstance(part, Sided):
        return If(Test(((False, side),)), [part])
    cases = [((False, side), *case) for case in part.test.cases]
    return branch_like(part, Test(*cases), part.block, part.other)
