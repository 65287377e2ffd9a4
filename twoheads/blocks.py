"""What comes of blocks: how many items are put, and the mode behind them."""

from twoheads.halves import EITHER, mode_behind


def done_block(halves, mode, m, n, more_left, more_right):
    """The pair that comes of a block that is done from a mode."""
    many = 0
    at = (*half_of(m, n, more_left, more_right), *mode, False)
    while m > 0 or n > 0:
        word, at, many = to_next(halves.deeds, at, many)
        if word == "":
            return many, None
        if word == "pairs":
            many, m, n = many + m * n, 0, 0
        elif word == "left":
            m = m - 1
        else:
            n = n - 1
        at = (*half_of(m, n, more_left, more_right), *at[2:])
    return many, mode_behind(halves.walk, at, more_left or more_right)


def half_of(m, n, more_left, more_right):
    """The half in which so many items remain, and whether the other row has more."""
    if m > 0 and n > 0:
        return "both", False
    if m > 0:
        return "left", more_right
    return "right", more_left


def to_next(deeds, at, many):
    """Goes on to the next step or pairs: its word, the situation behind it, and how many are put.

    The word is empty if the run ends first, and "wrong", with None as the situation, if it never
    comes so far. So many as told were put before.
    """
    # More quiet deeds than there are situations go round for ever.
    for _ in range(len(deeds) + 1):
        if at not in deeds:
            return "wrong" if at is None else "", at, many
        word, at = deeds[at]
        if word == "put":
            many = many + 1
        elif word != "":
            return word, at, many
    return "wrong", None, many


def blocks_from(halves, entry, most):
    """A dict from each block that fits an entry to what comes of it, as far as m and n go.

    None comes of a block in which something is wrong. Each half is gone through just once:
    blocks that are alike so far differ only behind it.
    """
    mode, left, right = entry
    found = {}
    if left:
        add_alone(halves, found, ("left", right, *mode, False), (0, 0, 0), most)
    if right:
        add_alone(halves, found, ("right", left, *mode, False), (0, 0, 0), most)
    if left and right:
        add_both(halves, found, ("both", False, *mode, False), most)
    return found


def add_alone(halves, found, at, so_far, most):
    """Adds the blocks that only one row goes on; so many were put and passed so far."""
    many, m, n = so_far
    half, more, _, _, _ = at
    for own in range((m if half == "left" else n) + 1, most + 1):
        _, at, many = to_next(halves.deeds, at, many)
        for own_more in EITHER:
            block = (own, n, own_more, more) if half == "left" else (m, own, more, own_more)
            found[block] = outcome(halves.walk, at, many, own_more or more)


def add_both(halves, found, at, most):
    """Adds the blocks of both rows, each of them where it leaves the both half."""
    many, m, n = 0, 0, 0
    while m < most and n < most:
        word, at, many = to_next(halves.deeds, at, many)
        if word == "left":
            m = m + 1
        elif word == "right":
            n = n + 1
        else:
            add_rest(halves, found, (word, at), (many, m, n), most)
            return
        rest = "right" if word == "left" else "left"
        for more in EITHER:
            add_alone(halves, found, (rest, more, *at[2:]), (many, m, n), most)


def add_rest(halves, found, deed, so_far, most):
    """Adds the blocks that are still in the both half when the run ends or comes to pairs."""
    word, at = deed
    many, m, n = so_far
    mores = [(left, right) for left in EITHER for right in EITHER]
    for own in range(m + 1, most + 1):
        for other in range(n + 1, most + 1):
            put = many + (own - m) * (other - n) if word == "pairs" else many
            for left, right in mores:
                found[own, other, left, right] = outcome(halves.walk, at, put, left or right)


def outcome(walk, at, many, is_more):
    """What comes of a block behind which a walk is in a situation; None if that is None."""
    if at is None:
        return None
    return many, mode_behind(walk, at, is_more)
