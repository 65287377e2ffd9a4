"""Tests: rows of cases, asked word by word."""

from twoheads.cases import case_text, need_cases, read_cases
from twoheads.errors import BadText
from twoheads.words import exchanged, is_flag_name


class Test:
    """A test; true if one of its cases is, which is true if all its words are."""

    def __init__(self, *cases):
        need_cases(cases)
        self.cases = cases

    @classmethod
    def read(cls, text):
        """The test with this text."""
        if not isinstance(text, str):
            raise BadText(0, 0)
        cases = read_cases(text.split(" "), 0, 0)
        return cls(*cases)

    def __str__(self):
        return " or ".join([case_text(case) for case in self.cases])

    def __eq__(self, other):
        return isinstance(other, Test) and self.cases == other.cases

    def flag_names(self):
        """The ascending list of the flags that are named."""
        return sorted({word for case in self.cases for _, word in case if is_flag_name(word)})

    def turned(self):
        """The test with the sides exchanged."""
        cases = [tuple([(is_not, exchanged(word)) for is_not, word in case]) for case in self.cases]
        return Test(*cases)

    def __call__(self, look):
        for case in self.cases:
            if is_true_case(case, look):
                return True
        return False


def is_true_case(case, look):
    """Whether a case is true; no word is asked behind the first that makes it false."""
    for is_not, word in case:
        if bool(look(word)) == is_not:
            return False
    return True
