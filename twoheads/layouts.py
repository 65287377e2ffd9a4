"""The lines of walks: what stands on them, and where a run goes from them."""

from twoheads.errors import BadWalk
from twoheads.parts import Branch, If, flags_of, size_of_all

MOST_FLAGS = 2


def spots_of(parts, most, deepest):
    """The tuple of the spots of the lines; raises BadWalk for the first line that is wrong.

    A spot is a triple (statement, depth, lead): lead is "elif" or "else" for a statement
    that begins an else block, as its text is written, and empty for others. Nothing behind
    a wrong line is looked at, so statements may be as many and as deep as they like.
    """
    waiting = [(part, 1, "", False) for part in reversed(list(parts))]
    spots = []
    flags = []
    while waiting:
        part, depth, lead, is_looped = waiting.pop()
        for flag in flags_of(part):
            if flag not in flags:
                flags.append(flag)
        line = len(spots)
        if line == most:
            raise BadWalk("many", line)
        if depth > deepest:
            raise BadWalk("deep", line)
        if len(flags) > MOST_FLAGS:
            raise BadWalk("flags", line)
        if part.word == "break" and not is_looped:
            raise BadWalk("break", line)
        spots.append((part, depth, lead))
        for inner in reversed(list(within_blocks(part, depth, is_looped))):
            waiting.append(inner)
    return tuple(spots)


def within_blocks(part, depth, is_looped):
    """The list of what waits in the blocks of a statement, in reading order."""
    if not isinstance(part, Branch):
        return []
    is_looping = is_looped or part.word == "while"
    found = [(inner, depth + 1, "", is_looping) for inner in part.block]
    if has_elif(part):
        found.append((part.other[0], depth, "elif", is_looped))
    else:
        for k, inner in enumerate(part.other):
            found.append((inner, depth + 1, "" if k else "else", is_looped))
    return found


def has_elif(part):
    """Whether the else block of a statement is written with `elif`."""
    return isinstance(part, If) and len(part.other) == 1 and isinstance(part.other[0], If)


def jumps_of(parts, end):
    """The tuple of the jumps of the lines of a walk with so many lines.

    A jump is a pair of lines: where a run goes if the test of this line is true, and where
    if it is false. For a statement without a test both are the line that is done next.
    """
    waiting = [(tuple(parts), 0, end, end)]
    found = {}
    while waiting:
        block, line, behind, leave = waiting.pop()
        for k, part in enumerate(block):
            after = behind if k == len(block) - 1 else line + part.size
            found[line] = jump_of(part, line, after, leave, end)
            for inner in inner_blocks(part, line, after, leave):
                waiting.append(inner)
            line = line + part.size
    return tuple([found[line] for line in range(end)])


def jump_of(part, line, after, leave, end):
    """The jump of one line; `leave` is the line to which a `break` leads."""
    if part.word == "break":
        return (leave, leave)
    if part.word == "stop":
        return (end, end)
    if not isinstance(part, Branch):
        return (after, after)
    if part.other:
        return (line + 1, line + 1 + size_of_all(part.block))
    return (line + 1, after)


def inner_blocks(part, line, after, leave):
    """The blocks of a statement, as tuples (block, first line, line behind it, leave)."""
    if not isinstance(part, Branch):
        return []
    other = (part.other, line + 1 + size_of_all(part.block), after, leave)
    if part.word == "while":
        return [(part.block, line + 1, line, after), other]
    return [(part.block, line + 1, after, leave), other]


def row_text(part, lead):
    """The first row of the text of a statement, with `elif` where it is written so."""
    if lead == "elif":
        return f"el{part.head()}"
    return part.head()


def text_rows(spots):
    """The list of the rows of the text of a walk with these spots."""
    rows = []
    for part, depth, lead in spots:
        if lead == "else":
            rows.append(f"{margin_of(depth - 1)}else")
        rows.append(f"{margin_of(depth)}{row_text(part, lead)}")
    return rows


def margin_of(depth):
    """The spaces in front of the text of a statement that is so deep."""
    return "  " * (depth - 1)
