"""Edits: walks that differ at one line, and those of them that mend a walk."""

from twoheads.alike import compared
from twoheads.books import Book
from twoheads.changes import edited_or_none, offered_edits
from twoheads.checks import check
from twoheads.claims import as_claim
from twoheads.errors import NotNow, TooLarge, TooMany, Unfit
from twoheads.items import is_number

MOST = 12
MOST_LIKE = 6


def edits(walk):
    """The ascending list of the edits of a walk."""
    return sorted([edit for edit in offered_edits(walk) if edited_or_none(walk, edit) is not None])


def edited(walk, edit):
    """The walk that an edit makes."""
    found = None
    if is_edit_form(edit) and edit in offered_edits(walk):
        found = edited_or_none(walk, edit)
    if found is None:
        raise NotNow(edit)
    return found


def is_edit_form(value):
    """Whether any value is a tuple whose second part is an integer; Python takes True for 1, too."""
    return isinstance(value, tuple) and len(value) > 1 and is_number(value[1])


def mends(walk, *claims, like=None):
    """The edits that make a walk keep all claims and be alike to another one, and the others."""
    most = MOST if like is None else MOST_LIKE
    if len(walk) > most:
        raise TooMany(most)
    asked = [as_claim(claim) for claim in claims]
    pattern = None if like is None else Book(like)
    good = []
    bad = {}
    for edit in edits(walk):
        wrong = what_is_wrong(edited_or_none(walk, edit), asked, pattern)
        if wrong is None:
            good.append(edit)
        else:
            bad[edit] = wrong
    return good, bad


def what_is_wrong(walk, claims, pattern):
    """None if a walk keeps all claims and does the same as a book tells; else what shows that it does not."""
    for claim in claims:
        verdict = check(walk, claim)
        if not verdict:
            return verdict.paper
    if pattern is None:
        return None
    try:
        verdict = compared(Book(walk), pattern)
    except Unfit:
        return "unfit"
    except TooLarge:
        return "large"
    return None if verdict else verdict.paper
