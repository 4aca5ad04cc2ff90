"""Edited sheets: each function returns a new sheet."""

from anytempo.amounts import Amount, as_amount, is_amount
from anytempo.errors import Duplicate, HasChildren, InvalidAmount, InvalidName, NoShift, UnknownCue
from anytempo.rows import extended
from anytempo.sheets import START, Sheet, check_known, check_sheet
from anytempo.validation import check_unit, is_name, other_unit


def is_alike(one, other):
    """Whether two sheets have the same cues with the same rows."""
    return len(unlike(one, other)) == 0


def unlike(one, other):
    """The names of the cues that only one of two sheets has, or that have unequal rows."""
    check_sheet(one)
    check_sheet(other)
    new = [name for name in other.names() if name not in one]
    return [name for name in one.names() if name not in other or one.row(name) != other.row(name)] + new


def inserted(sheet, name, parent, unit, amount):
    """The sheet with a new cue behind all others."""
    check_sheet(sheet)
    return Sheet(sheet.cues() + [(name, parent, unit, amount)])


def dropped(sheet, name):
    """The sheet without a cue."""
    check_sheet(sheet)
    _check_cue(sheet, name)
    if len(sheet.children(name)) > 0:
        raise HasChildren(name)
    return Sheet([cue for cue in sheet.cues() if cue[0] != name])


def renamed(sheet, name, new):
    """The sheet in which a cue has another name."""
    check_sheet(sheet)
    _check_cue(sheet, name)
    if not is_name(new):
        raise InvalidName(new)
    if new != name and new in sheet:
        raise Duplicate(new)
    names = {name: new}
    return Sheet([(names.get(own, own), names.get(parent, parent), unit, amount)
                  for own, parent, unit, amount in sheet.cues()])


def nudged(sheet, name, unit, amount):
    """The sheet in which a cue lies an amount of a unit later."""
    check_sheet(sheet)
    parent, former_unit, former = sheet.cue(name)
    check_unit(unit)
    if not is_amount(amount):
        raise InvalidAmount(amount)
    row = extended(extended([], former_unit, former), unit, as_amount(amount))
    return _told_by(sheet, name, parent, row)


def hung(sheet, name, parent):
    """The sheet in which a cue is told from another parent, and all moments stay."""
    check_sheet(sheet)
    _check_cue(sheet, name)
    earlier = sheet.names()[:sheet.names().index(name)]
    if parent != START and parent not in earlier:
        raise UnknownCue(parent)
    return _told_by(sheet, name, parent, sheet.between(parent, name))


def exchanged(sheet):
    """The sheet with beats and seconds exchanged."""
    check_sheet(sheet)
    return Sheet([(name, parent, other_unit(unit), amount) for name, parent, unit, amount in sheet.cues()])


def reversed_sheet(sheet):
    """The sheet with time turned about."""
    check_sheet(sheet)
    return Sheet([(name, parent, unit, -amount) for name, parent, unit, amount in sheet.cues()])


def stretched(sheet, unit, by):
    """The sheet in which all amounts of a unit are multiplied by an amount greater than 0."""
    check_sheet(sheet)
    check_unit(unit)
    if not is_amount(by) or as_amount(by).compare(0) <= 0:
        raise InvalidAmount(by)
    return Sheet([(name, parent, own, amount * by if own == unit else amount)
                  for name, parent, own, amount in sheet.cues()])


def attached(sheet, other, at, prefix):
    """The cues of a sheet, followed by those of another one, which are told from a cue in place of the start."""
    check_sheet(sheet)
    check_sheet(other)
    check_known(sheet, at)
    if not is_name(prefix):
        raise InvalidName(prefix)
    new = [(prefix + name, at if parent == START else prefix + parent, unit, amount)
           for name, parent, unit, amount in other.cues()]
    return Sheet(sheet.cues() + new)


def _check_cue(sheet, name):
    """Raises UnknownCue for what is not the name of a cue; the start is none."""
    if name not in sheet or name == START:
        raise UnknownCue(name)


def _told_by(sheet, name, parent, row):
    """The sheet in which a cue is told from a parent by a row of at most one member."""
    if len(row) > 1:
        raise NoShift(name)
    unit, amount = row[0] if len(row) > 0 else (sheet.cue(name)[1], Amount(0))
    return Sheet([(name, parent, unit, amount) if cue[0] == name else cue for cue in sheet.cues()])
