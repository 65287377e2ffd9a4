"""The reader of the texts of walks.

Rows are read one after another, and statements that have blocks are made behind the last
row, the inner ones first: so neither deep blocks nor long rows of `elif` need recursion.
"""

from twoheads.asking import Test
from twoheads.cases import read_cases
from twoheads.errors import BadText
from twoheads.parts import Break, Clear, If, Pairs, Put, Set, Step, Stop, While
from twoheads.words import SIDES, is_flag_name


class Entry:
    """A statement that is read; `made` is the statement as soon as it can be made."""

    def __init__(self, word, test, made):
        self.word = word
        self.test = test
        self.made = made
        self.block = []
        self.other = []


class Reader:
    """What was read so far of a text.

    `levels` has the entries of each block that is open, the outermost one first, and
    `owners`, for each of them, the entry to which a next `else` or `elif` belongs, or None.
    """

    def __init__(self):
        self.levels = [[]]
        self.owners = [None]
        self.branches = []
        self.must_begin = False

    def take_row(self, row, text):
        """Reads one row."""
        level = self.level_of(row, text)
        words = text.lstrip(" ").split(" ")
        del self.levels[level + 1:]
        del self.owners[level + 1:]
        if words[0] == "else":
            self.take_else(row, words, level)
        elif words[0] == "elif":
            self.take_elif(row, words, level)
        else:
            self.take_statement(row, words, level)

    def level_of(self, row, text):
        """How many blocks are around a row, as its margin tells."""
        margin = len(text) - len(text.lstrip(" "))
        level = margin // 2
        deepest = len(self.levels) - 1
        if margin != 2 * level or level > deepest or (self.must_begin and level < deepest):
            raise BadText(row, 0)
        return level

    def take_else(self, row, words, level):
        """Begins the else block of the statement that owns it."""
        owner = self.owners[level]
        if owner is None:
            raise BadText(row, 0)
        need_end(row, words, 1)
        self.owners[level] = None
        self.begin_block(owner.other)

    def take_elif(self, row, words, level):
        """Begins an `if` that is the only statement of the else block of another one."""
        owner = self.owners[level]
        if owner is None or owner.word != "if":
            raise BadText(row, 0)
        entry = Entry("if", read_test(row, words), None)
        owner.other.append(entry)
        self.begin_branch(entry, level)

    def take_statement(self, row, words, level):
        """Puts a statement into the block of its level."""
        if words[0] == "if" or words[0] == "while":
            entry = Entry(words[0], read_test(row, words), None)
            self.levels[level].append(entry)
            self.begin_branch(entry, level)
        else:
            self.levels[level].append(Entry(words[0], None, read_act(row, words)))
            self.owners[level] = None
            self.must_begin = False

    def begin_branch(self, entry, level):
        """Keeps an entry that has a block, and begins this block."""
        self.branches.append(entry)
        self.owners[level] = entry
        self.begin_block(entry.block)

    def begin_block(self, entries):
        """Makes a list of entries the innermost open block."""
        self.levels.append(entries)
        self.owners.append(None)
        self.must_begin = True

    def finished(self):
        """The list of the outermost statements; all rows are read."""
        for entry in reversed(list(self.branches)):
            entry.made = made_branch(entry)
        return all_made(self.levels[0])


def read_parts(text):
    """The list of the outermost statements of a text."""
    if not isinstance(text, str):
        raise BadText(0, 0)
    rows = text.split("\n")
    reader = Reader()
    for row, words in enumerate(rows):
        reader.take_row(row, words)
    if reader.must_begin:
        raise BadText(len(rows), 0)
    return reader.finished()


def all_made(entries):
    """The list of the statements of entries that are all made."""
    return [entry.made for entry in entries]


def made_branch(entry):
    """The statement of an entry whose blocks are made."""
    if entry.word == "if":
        return If(entry.test, all_made(entry.block), all_made(entry.other))
    return While(entry.test, all_made(entry.block), all_made(entry.other))


def read_test(row, words):
    """The test behind the first word of a row."""
    cases = read_cases(words, 1, row)
    return Test(*cases)


def read_act(row, words):
    """The statement without blocks that the words of a row tell."""
    word = words[0]
    if word == "put":
        return Put(read_side(row, words))
    if word == "step":
        return Step(read_side(row, words))
    if word == "pairs":
        return Pairs(read_side(row, words))
    if word == "set":
        return Set(read_flag(row, words))
    if word == "clear":
        return Clear(read_flag(row, words))
    if word == "break":
        need_end(row, words, 1)
        return Break()
    if word == "stop":
        need_end(row, words, 1)
        return Stop()
    raise BadText(row, 0)


def read_side(row, words):
    """The side that is the second and last word of a row."""
    if len(words) == 1 or words[1] not in SIDES:
        raise BadText(row, 1)
    need_end(row, words, 2)
    return words[1]


def read_flag(row, words):
    """The name of a flag that is the second and last word of a row."""
    if len(words) == 1 or not is_flag_name(words[1]):
        raise BadText(row, 1)
    need_end(row, words, 2)
    return words[1]


def need_end(row, words, many):
    """Raises BadText if a row has more than so many words."""
    if len(words) > many:
        raise BadText(row, many)
