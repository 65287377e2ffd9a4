"""The reader of the lines that a desk is asked."""

from twoheads.errors import BadText
from twoheads.gains import COUNTS
from twoheads.readers import need_end, read_side
from twoheads.samples import sample_text

LONGEST_NUMBER = 6
GREATEST_WEIGHT = 20
MOST_RANKS = 20


def read_line(line):
    """What a line says: a tuple of its kind and what it tells."""
    if not isinstance(line, str):
        raise BadText(0, 0)
    words = line.split(" ")
    if words[0] not in READERS:
        raise BadText(0, 0)
    reader = READERS[words[0]]
    return reader(words)


def word_at(words, at):
    """The word at an index; behind the last one an empty word, which is a wrong one, too."""
    return words[at] if at < len(words) else ""


def read_alone(words):
    """A line of one word."""
    need_end(0, words, 1)
    return (words[0],)


def read_claim(words):
    """The word of a claim without a side."""
    need_end(0, words, 1)
    return ("claim", words[0])


def read_sided_claim(words):
    """The words of a claim with a side."""
    return ("claim", f"{words[0]} {read_side(0, words)}")


def read_like(words):
    """The name of a usual walk."""
    name = word_at(words, 1)
    if sample_text(name) is None:
        raise BadText(0, 1)
    need_end(0, words, 2)
    return ("like", name)


def read_bound(words):
    """What is counted, and two weights."""
    if word_at(words, 1) not in COUNTS:
        raise BadText(0, 1)
    weights = [read_weight(words, 2), read_weight(words, 3)]
    need_end(0, words, 4)
    return ("bound", words[1], *weights)


def read_weight(words, at):
    """The weight that is the word at an index."""
    word = word_at(words, at)
    if not is_numeral(word) or int(word) > GREATEST_WEIGHT:
        raise BadText(0, at)
    return int(word)


def read_play(words):
    """Two rows of ranks."""
    left, at = read_ranks(words, 1)
    if word_at(words, at) != "/":
        raise BadText(0, at)
    right, at = read_ranks(words, at + 1)
    need_end(0, words, at)
    return ("play", left, right)


def read_ranks(words, at):
    """The tuple of the ranks of a row that begins at an index, and the index behind it."""
    if word_at(words, at) == "-":
        return (), at + 1
    found = []
    while is_next_rank(found, word_at(words, at)):
        found.append(int(words[at]))
        at = at + 1
    if not found:
        raise BadText(0, at)
    return tuple(found), at


def is_next_rank(ranks, word):
    """Whether a word is a rank that can stand behind these ranks of a row."""
    if not is_numeral(word) or len(ranks) == MOST_RANKS:
        return False
    return not ranks or ranks[-1] <= int(word)


def is_numeral(word):
    """Whether a word is a number of few digits without leading zeros."""
    if not word.isdigit() or len(word) > LONGEST_NUMBER:
        return False
    return word == "0" or not word.startswith("0")


READERS = {
    "inside": read_claim, "ending": read_claim, "ordered": read_claim, "single": read_claim,
    "stable": read_claim, "level": read_claim, "keeps": read_sided_claim,
    "uses": read_sided_claim, "spares": read_sided_claim, "like": read_like, "bound": read_bound,
    "play": read_play, "idle": read_alone, "text": read_alone, "back": read_alone,
}
