"""All forms that a stand can have, some ranks for each, and all small rows."""

from itertools import combinations_with_replacement, product

from model import Model
from twoheads.items import Item

LASTS = {
    "equal": ["above above", "below below", "equal equal", "none none"],
    "left": ["above -", "below -", "equal -", "none -"],
    "less": ["above above", "above below", "above equal", "below below", "equal below", "none none"],
    "more": ["above above", "below above", "below below", "below equal", "equal above", "none none"],
    "none": ["- -"],
    "right": ["- above", "- below", "- equal", "- none"],
}
LASTS["more"] = sorted(" ".join(reversed(words.split())) for words in LASTS["less"])


def all_forms():
    """All triples (heads, left_last, right_last) that some ranks can have."""
    return [(heads, *words.split()) for heads in LASTS for words in LASTS[heads]]


def all_rows(most, ranks):
    return [row for many in range(most + 1) for row in combinations_with_replacement(range(ranks), many)]


def spread(heads, left_last, right_last):
    """Some ranks (left, right, last) that stand so, found by trying; None for what is not there."""
    for left, right, last in product((None, 10, 20), (None, 10, 20), (None, 5, 10, 15, 20, 25)):
        if formed(left, right, last) == (heads, left_last, right_last):
            return left, right, last
    raise AssertionError((heads, left_last, right_last))


def formed(left, right, last):
    model = Model([], [Item(left)] if left is not None else [], [Item(right)] if right is not None else [])
    model.put = [Item(last)] if last is not None else []
    return model.stand(0)[2:]
