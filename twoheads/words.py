"""The words of tests and statements, and the letters of names."""

LETTERS = "abcdefghijklmnopqrstuvwxyz"
LONGEST = 8
SIDES = ("left", "right")
ORDERS = ("less", "equal", "more")
NEWS = ("new left", "new right")
RESERVED = (
    "while", "if", "elif", "else", "break", "stop", "put", "step", "pairs", "set", "clear",
    "left", "right", "less", "equal", "more", "new", "not", "and", "or", "none",
)
EXCHANGED = {
    "left": "right", "right": "left", "less": "more", "more": "less",
    "new left": "new right", "new right": "new left",
}


def is_lettered(value):
    """Whether any value is a string of at most 8 letters."""
    if not isinstance(value, str) or len(value) > LONGEST:
        return False
    return all([sign in LETTERS for sign in value])


def is_flag_name(value):
    """Whether any value can name a flag."""
    return is_lettered(value) and value != "" and value not in RESERVED


def is_single_word(value):
    """Whether any value is a word of a test that is written without a space."""
    return is_flag_name(value) or (isinstance(value, str) and value in SIDES + ORDERS)


def is_word(value):
    """Whether any value is a word of a test."""
    return is_single_word(value) or (isinstance(value, str) and value in NEWS)


def exchanged(word):
    """The word with the sides exchanged."""
    return EXCHANGED.get(word, word)
