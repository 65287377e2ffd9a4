"""The cases of a test: looked at, written, and read from the words of a text."""

from twoheads.errors import BadTest, BadText
from twoheads.words import SIDES, is_single_word, is_word

LIMIT = 4


def need_cases(cases):
    """Raises BadTest for the first place at which a tuple of cases makes no test."""
    for k, case in enumerate(cases[:LIMIT]):
        need_case(k, case)
    if len(cases) > LIMIT:
        raise BadTest(LIMIT, 0)
    if not cases:
        raise BadTest(0, 0)


def need_case(k, case):
    """Raises BadTest for the first place at which any value is not the case k."""
    if not isinstance(case, tuple) or not case:
        raise BadTest(k, 0)
    for j, pair in enumerate(case[:LIMIT]):
        if not is_pair(pair):
            raise BadTest(k, j)
    if len(case) > LIMIT:
        raise BadTest(k, LIMIT)


def is_pair(value):
    """Whether any value is a pair (is_not, word)."""
    if not isinstance(value, tuple) or len(value) != 2:
        return False
    return isinstance(value[0], bool) and is_word(value[1])


def case_text(case):
    """The text of a case."""
    return " and ".join([f"not {word}" if is_not else word for is_not, word in case])


def read_cases(words, at, row):
    """The cases that the words of a row tell from an index to their end."""
    case, at = read_case(words, at, row)
    cases = [case]
    while at < len(words):
        if words[at] != "or" or len(cases) == LIMIT:
            raise BadText(row, at)
        case, at = read_case(words, at + 1, row)
        cases.append(case)
    return cases


def read_case(words, at, row):
    """The case that begins at an index, and the index behind it."""
    pair, at = read_pair(words, at, row)
    pairs = [pair]
    while words[at:at + 1] == ["and"]:
        if len(pairs) == LIMIT:
            raise BadText(row, at)
        pair, at = read_pair(words, at + 1, row)
        pairs.append(pair)
    return tuple(pairs), at


def read_pair(words, at, row):
    """The pair (is_not, word) that begins at an index, and the index behind it."""
    is_not = words[at:at + 1] == ["not"]
    if is_not:
        at = at + 1
    is_new = words[at:at + 1] == ["new"]
    if is_new:
        at = at + 1
    if at == len(words):
        raise BadText(row, at)
    word = words[at]
    if is_new:
        if word not in SIDES:
            raise BadText(row, at)
        return (is_not, f"new {word}"), at + 1
    if not is_single_word(word):
        raise BadText(row, at)
    return (is_not, word), at + 1
