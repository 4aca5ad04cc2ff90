"""The kinds of plain values that the package takes: integers, names, units and words."""

from anytempo.errors import InvalidUnit, InvalidWord

UNITS = ("beats", "seconds")
WORDS = ("before", "same", "after")
LETTERS = "abcdefghijklmnopqrstuvwxyz"
DIGITS = "0123456789"
LONGEST_NAME = 8


def is_whole(value):
    """Whether a value is an integer of any size."""
    # True and False are of the class int as well, but they are not integers here.
    return isinstance(value, int) and not isinstance(value, bool)


def is_listing(value):
    """Whether a value is a list or a tuple, each of which is accepted for the other one."""
    return isinstance(value, (list, tuple))


def is_integer(value, low, high):
    """Whether a value is an integer from low to high."""
    return is_whole(value) and low <= value <= high


def is_name(value):
    """Whether a value is a string of one to eight small letters and digits, the first one a letter."""
    if not isinstance(value, str) or not 1 <= len(value) <= LONGEST_NAME:
        return False
    return value[0] in LETTERS and has_only(value, LETTERS + DIGITS)


def has_only(text, characters):
    """Whether each character of a text is one of the characters given."""
    return all([character in characters for character in text])


def is_unit(value):
    """Whether a value is a unit."""
    return isinstance(value, str) and value in UNITS


def is_word(value):
    """Whether a value is a word."""
    return isinstance(value, str) and value in WORDS


def check_unit(unit):
    """Raises InvalidUnit for what is not a unit."""
    if not is_unit(unit):
        raise InvalidUnit(unit)


def other_unit(unit):
    """The unit that this one is not."""
    check_unit(unit)
    return "seconds" if unit == "beats" else "beats"


def check_word(word):
    """Raises InvalidWord for what is not a word."""
    if not is_word(word):
        raise InvalidWord(word)


def turned(word):
    """The word that is right when the two moments are exchanged."""
    check_word(word)
    if word == "before":
        return "after"
    if word == "after":
        return "before"
    return "same"
