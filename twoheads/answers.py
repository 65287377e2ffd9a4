"""The answers of a desk, told as texts."""

from twoheads.alike import alike
from twoheads.bounds import bound
from twoheads.checks import check
from twoheads.idle import idle
from twoheads.plays import Play
from twoheads.rows import Row
from twoheads.walks import Walk


def answer(walk, saying):
    """What is told of a walk when a line says this."""
    kind, *parts = saying
    told = ANSWERS[kind]
    return told(walk, *parts)


def claim_answer(walk, word):
    """Whether the walk keeps a claim."""
    verdict = check(walk, word)
    if verdict:
        return f"holds, {len(verdict.paper)} rows"
    return f"breaks on {rows_text(verdict.paper)}"


def like_answer(walk, name):
    """Whether the walk is alike to a usual one."""
    verdict = alike(walk, Walk.sample(name))
    if verdict:
        return "alike"
    return f"parted on {rows_text(verdict.paper)}"


def bound_answer(walk, count, a, b):
    """The greatest excess of a count, if there is one."""
    found = bound(walk, count, a, b)
    return str(found.c) if found else "grows"


def play_answer(walk, left, right):
    """The ranks that the walk puts on two rows, and its fall if it falls."""
    play = Play(walk, Row(left), Row(right))
    last = None
    while not play.over:
        last = play.do()
    put = ranks_text([item.rank for item in play.put])
    if play.fall is None:
        return put
    return f"{put}; {fall_text(last)}"


def fall_text(event):
    """The text of a fall: its word, its side if it has one, and its line."""
    words = [event[0], *event[2:], "at", str(event[1])]
    return " ".join(words)


def idle_answer(walk):
    """What never matters."""
    return ", ".join([f"{line} {word}" for line, word in idle(walk)]) or "-"


def text_answer(walk):
    """The text of the walk in one row."""
    return "; ".join([row.lstrip(" ") for row in str(walk).split("\n")])


def rows_text(rows):
    """The text of a pair of rows of ranks."""
    left, right = rows
    return f"{ranks_text(left)} / {ranks_text(right)}"


def ranks_text(ranks):
    """The text of a row of ranks."""
    return " ".join([str(rank) for rank in ranks]) or "-"


ANSWERS = {
    "claim": claim_answer, "like": like_answer, "bound": bound_answer, "play": play_answer,
    "idle": idle_answer, "text": text_answer,
}
