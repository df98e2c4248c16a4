"""What is a name, what is a strength, and how numbers are written."""

from spareline.errors import NoRow

LETTERS = "abcdefghijklmnopqrstuvwxyz"
FIGURES = "0123456789"
LONGEST_NAME = 8
LONGEST_NUMBER = 10
GREATEST_STRENGTH = 1000000000


def is_name(thing):
    if not isinstance(thing, str):
        return False
    return 1 <= len(thing) <= LONGEST_NAME and is_made_of(thing, LETTERS)


def is_strength(thing):
    # True and False are ints to Python, but no whole numbers here.
    if isinstance(thing, bool) or not isinstance(thing, int):
        return False
    return 1 <= thing <= GREATEST_STRENGTH


def number_of(text):
    if not is_written_number(text):
        raise NoRow(text)
    return int(text)


def is_written_number(thing):
    # int alone would also take blanks, signs, underscores and figures of other scripts.
    if not isinstance(thing, str):
        return False
    if not 1 <= len(thing) <= LONGEST_NUMBER or not is_made_of(thing, FIGURES):
        return False
    return thing == "0" or thing[0] != "0"


def is_made_of(text, signs):
    return all([sign in signs for sign in text])
