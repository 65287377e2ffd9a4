"""Edits done another way: on walks as nested lists, found by trying all places."""

from copy import deepcopy

from twoheads.asking import Test
from twoheads.errors import BadTest, BadWalk
from twoheads.parts import Break, Clear, If, Pairs, Put, Set, Step, Stop, While
from twoheads.walks import Walk

ACTS = ("put left", "put right", "step left", "step right")
SIDES = ("left", "right")
ORDERS = ("less", "equal", "more")
MADE = {"put": Put, "step": Step, "pairs": Pairs, "set": Set, "clear": Clear, "break": Break, "stop": Stop, "if": If, "while": While}


def tree_of(part):
    """A statement as a list: its word, then its side or flag, or its cases and both blocks."""
    if part.word in ("if", "while"):
        return [part.word, [list(case) for case in part.test.cases], [tree_of(p) for p in part.block], [tree_of(p) for p in part.other]]
    return part.head().split(" ")


def part_of(tree):
    if tree[0] in ("if", "while"):
        word, cases, block, other = tree
        return MADE[word](Test(*[tuple(case) for case in cases]), [part_of(t) for t in block], [part_of(t) for t in other])
    return MADE[tree[0]](*tree[1:])


def places(block):
    """All statements of a block and of those in it, in reading order, as pairs (block, index)."""
    for k, tree in enumerate(block):
        yield block, k
        if tree[0] in ("if", "while"):
            yield from places(tree[2])
            yield from places(tree[3])


def all_edits(walk):
    """A dict from all edits of a walk that make a walk to these walks."""
    trees = [tree_of(part) for part in walk.parts]
    found = {}
    for line in range(len(walk)):
        for edit, change in changes_at(trees, line):
            changed = deepcopy(trees)
            change(*list(places(changed))[line])
            try:
                found[edit] = Walk(*[part_of(tree) for tree in changed])
            except (BadTest, BadWalk):
                pass
    return found


def changes_at(trees, line):
    """Pairs of an edit and a function that does it to a block at an index."""
    block, k = list(places(trees))[line]
    tree = block[k]
    for act in ACTS:
        yield ("ahead", line, act), lambda told, j, act=act: told.insert(j, act.split(" "))
        if k + 1 == len(block):
            yield ("behind", line, act), lambda told, j, act=act: told.append(act.split(" "))
    if len(block) > 1:
        yield ("drop", line), lambda told, j: told.pop(j)
    if tree[0] in ("put", "step", "pairs"):
        for side in SIDES:
            yield ("guard", line, side), lambda told, j, side=side: told.insert(j, ["if", [[(False, side)]], [told.pop(j)], []])
        yield ("turn", line), lambda told, j: told[j].append({"left": "right", "right": "left"}[told[j].pop()])
    if tree[0] in ("if", "while"):
        for side in SIDES:
            yield ("guard", line, side), lambda told, j, side=side: [case.insert(0, (False, side)) for case in told[j][1]]
        if [len(case) for case in tree[1]] == [1] and tree[1][0][0][1] in ORDERS:
            for word in ORDERS:
                if word != tree[1][0][0][1]:
                    yield (("word", line, word),
                           lambda told, j, word=word: told[j][1][0].__setitem__(0, (told[j][1][0][0][0], word)))
