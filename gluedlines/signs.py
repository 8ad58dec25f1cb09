"""The signs of which lines are made."""

SIGNS = " #-.0123456789:>ABCDEFGHIJKLMNOPQRSTUVWXYZabcdefghijklmnopqrstuvwxyz"
DIGIT_SIGNS = "0123456789"
LETTER_SIGNS = "ABCDEFGHIJKLMNOPQRSTUVWXYZabcdefghijklmnopqrstuvwxyz"


def is_line(thing):
    """Whether anything is a line: a string of one or more signs."""
    return isinstance(thing, str) and len(thing) > 0 and all([sign in SIGNS for sign in thing])
