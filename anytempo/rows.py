"""Rows: lists of shifts (unit, amount) that are as short as possible, so that their units alternate."""

from anytempo.amounts import Amount


def parted(row, unit):
    """A row without its last shift if this one is in a unit, and the amount of this shift, or 0."""
    if len(row) > 0 and row[-1][0] == unit:
        return row[:-1], row[-1][1]
    return list(row), Amount(0)


def extended(row, unit, amount):
    """A row followed by one more shift, made as short as possible."""
    before, last = parted(row, unit)
    shift = last + amount
    # What stands before ends in the other unit, so nothing more can be joined when the shift is left out.
    return before if shift == Amount(0) else before + [(unit, shift)]


def way(one, other):
    """The shortest row that leads from the end of one row to the end of another one."""
    found = []
    for unit, amount in reversed(one):
        found = extended(found, unit, -amount)
    for unit, amount in other:
        found = extended(found, unit, amount)
    return found


def gap(unit, one, other):
    """The amount of a unit by which one row is shifted to give another one, or None if none does."""
    base, first = parted(one, unit)
    other_base, second = parted(other, unit)
    return second - first if base == other_base else None
