"""Sheets: cues that are told by beats and by seconds, and the moments at which they lie."""

from anytempo.amounts import as_amount, is_amount, on_one_bottom
from anytempo.errors import (
    Duplicate, InvalidAmount, InvalidCue, InvalidInteger, InvalidName, InvalidPart, InvalidSheet, TooMany,
    UnknownCue,
)
from anytempo.rows import extended, gap, way
from anytempo.validation import check_unit, is_integer, is_listing, is_name

START = "start"
MOST_MOMENTS = 8


class Sheet:
    """Cues, each of which is told from the start or from an earlier cue; a sheet never changes."""

    def __init__(self, cues):
        if not is_listing(cues):
            raise InvalidPart(cues)
        self._cues = []
        self._rows = [[]]
        self._numbers = {START: 0}
        for item in cues:
            check_cue(item, self._numbers)
            self._tell(item)
        if len(self._rows) > MOST_MOMENTS:
            raise TooMany(MOST_MOMENTS)

    def _tell(self, item):
        """Takes a cue behind the others."""
        name, parent, unit, amount = item
        shift = as_amount(amount)
        row = extended(self._rows[self._numbers[parent]], unit, shift)
        # Shorter beginnings of the row are rows of the start or of earlier cues, so they are moments already.
        if row not in self._rows:
            self._rows.append(row)
        self._cues.append((name, parent, unit, shift))
        self._numbers[name] = self._rows.index(row)

    def __len__(self):
        return len(self._cues)

    def __contains__(self, value):
        return isinstance(value, str) and value in self._numbers

    def __eq__(self, other):
        return isinstance(other, Sheet) and self._cues == other._cues

    def names(self):
        """The names of the cues, without the start, in their order."""
        return [cue[0] for cue in self._cues]

    def cues(self):
        """The tuples (name, parent, unit, amount) of the cues, in their order."""
        return list(self._cues)

    def cue(self, name):
        """The tuple (parent, unit, amount) of a cue."""
        for cue in self._cues:
            if cue[0] == name:
                return cue[1:]
        raise UnknownCue(name)

    def children(self, name):
        """The names of the cues that are told from a cue or from the start, in their order."""
        check_known(self, name)
        return [cue[0] for cue in self._cues if cue[1] == name]

    def row(self, name):
        """The row of a cue or of the start."""
        return list(self._rows[self.moment(name)])

    def between(self, one, other):
        """The row that leads from one cue, or the start, to another one."""
        return way(self._rows[self.moment(one)], self._rows[self.moment(other)])

    def same(self, one, other):
        """Whether two cues, or a cue and the start, have equal rows."""
        return self.moment(one) == self.moment(other)

    def moments(self):
        """The rows of all moments, in the order of their numbers."""
        return [list(row) for row in self._rows]

    def moment(self, name):
        """The number of the moment of a cue or of the start."""
        check_known(self, name)
        return self._numbers[name]

    def names_at(self, number):
        """The names of the cues at a moment, the start first if it is there, then in their order."""
        check_moment(self, number)
        return [name for name, at in self._numbers.items() if at == number]

    def distance(self, unit, one, other):
        """The distance in a unit from one moment to another one, or None if no line of the unit has both."""
        check_unit(unit)
        check_moment(self, one)
        check_moment(self, other)
        return gap(unit, self._rows[one], self._rows[other])

    def line(self, unit, number):
        """The numbers of the moments on the line of a moment, sorted by their distances from it."""
        check_unit(unit)
        check_moment(self, number)
        gaps = [gap(unit, self._rows[number], row) for row in self._rows]
        numbers = [other for other in range(len(gaps)) if gaps[other] is not None]
        tops = on_one_bottom([gaps[other] for other in numbers])[0]
        return [place[1] for place in sorted(zip(tops, numbers))]


def check_cue(item, known):
    """Raises what is wrong with a told cue; known has the start and the names of the earlier cues."""
    if not is_listing(item) or len(item) != 4:
        raise InvalidCue(item)
    name, parent, unit, amount = item
    if not is_name(name):
        raise InvalidName(name)
    if name in known:
        raise Duplicate(name)
    if not isinstance(parent, str) or parent not in known:
        raise UnknownCue(parent)
    check_unit(unit)
    if not is_amount(amount):
        raise InvalidAmount(amount)


def check_sheet(sheet):
    """Raises InvalidSheet for what is not a sheet."""
    if not isinstance(sheet, Sheet):
        raise InvalidSheet(sheet)


def check_known(sheet, name):
    """Raises UnknownCue for what is neither a cue of the sheet nor the start."""
    if name not in sheet:
        raise UnknownCue(name)


def check_moment(sheet, number):
    """Raises InvalidInteger for what is not the number of a moment of the sheet."""
    if not is_integer(number, 0, len(sheet.moments()) - 1):
        raise InvalidInteger(number)
