"""Trees of cases: whether rows show that what is assumed of moments contradicts the facts."""

from anytempo.rings import MOST_STEPS, WEIGHTS, is_ring, told_steps, told_words, weighed, word_steps
from anytempo.validation import UNITS, WORDS, is_integer, is_unit


def shows(sheet, facts, words, rows):
    """Whether a value is a tree that shows that words (one, word, other) of moments contradict the facts."""
    if not isinstance(rows, list):
        return False
    steps = []
    for one, word, other in told_words(sheet, facts) + words:
        steps.extend(word_steps(one, word, other))
    weights = {unit: weighed(told_steps(sheet, unit, steps, facts), MOST_STEPS)[0] for unit in UNITS}
    count = len(sheet.moments())
    # For each row that is named: the index of the row above, and the word of two moments that leads from there.
    ways = {0: None}
    for index, row in enumerate(rows):
        if index not in ways or not isinstance(row, tuple):
            return False
        if _is_ring_row(row):
            if not is_ring(row[2], _right_steps(weights[row[1]], ways, index)):
                return False
        elif not _is_case_row(row, index, len(rows), count) or not _led(ways, index, row):
            return False
    return len(ways) == len(rows)


def _is_ring_row(row):
    """Whether a tuple has the form of a row with a ring, whatever its steps are."""
    return len(row) == 3 and row[0] == "ring" and is_unit(row[1])


def _is_case_row(row, index, length, count):
    """Whether a tuple has the form of a row with three cases, which name later rows."""
    if len(row) != 6 or row[0] != "case":
        return False
    if not all([is_integer(number, 0, count - 1) for number in row[1:3]]) or row[1] == row[2]:
        return False
    return all([is_integer(below, index + 1, length - 1) for below in row[3:]])


def _led(ways, index, row):
    """Takes the ways from a case to the rows that it names; whether none of them is named already."""
    for word, below in zip(WORDS, row[3:]):
        if below in ways:
            return False
        ways[below] = (index, row[1], word, row[2])
    return True


def _right_steps(weights, ways, index):
    """The weights of steps, with those of the steps that the cases that lead to a row assume."""
    found = {step: weights[step] for step in weights}
    way = ways[index]
    while way is not None:
        above, one, word, other = way
        for step in word_steps(one, word, other):
            found[step] = WEIGHTS[step[0]]
        way = ways[above]
    return found
