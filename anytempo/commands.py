"""Commands: the lines that a session understands."""

from anytempo.amounts import amount_of
from anytempo.errors import InvalidCommand
from anytempo.texts import read_fact
from anytempo.validation import DIGITS, has_only, is_name, is_unit

# For each first word the kinds of the words behind it.
FORMS = {
    "insert": ("name", "name", "unit", "amount"),
    "drop": ("name",),
    "rename": ("name", "name"),
    "nudge": ("name", "unit", "amount"),
    "hang": ("name", "name"),
    "exchange": (),
    "reverse": (),
    "stretch": ("unit", "amount"),
    "fact": ("fact",),
    "forget": ("number",),
    "show": (),
    "facts": (),
    "changes": (),
    "relation": ("name", "name"),
    "range": ("unit", "name", "name"),
    "orders": ("number",),
    "sure": (),
    "tempo": (),
    "undo": (),
    "redo": (),
}


def read(line):
    """The first word of a command and the list of what the words behind it represent."""
    if not isinstance(line, str):
        raise InvalidCommand(line)
    word, space, rest = line.partition(" ")
    if word not in FORMS:
        raise InvalidCommand(line)
    words = [] if space == "" else rest.split(" ")
    if word == "fact":
        # A fact has words of its own.
        words = [rest]
    if len(FORMS[word]) != len(words):
        raise InvalidCommand(line)
    told = [_read_word(kind, item) for kind, item in zip(FORMS[word], words)]
    if any([item is None for item in told]):
        raise InvalidCommand(line)
    return word, told


def _read_word(kind, word):
    """What a word represents as one of a kind, or None."""
    if kind == "amount":
        return amount_of(word)
    if kind == "number":
        return _number_of(word)
    if kind == "fact":
        return read_fact(word)
    fits = is_name(word) if kind == "name" else is_unit(word)
    return word if fits else None


def _number_of(word):
    """The integer from 0 to 99 that a word represents, or None."""
    if not 1 <= len(word) <= 2 or not has_only(word, DIGITS):
        return None
    return int(word) if word[0] != "0" or word == "0" else None
