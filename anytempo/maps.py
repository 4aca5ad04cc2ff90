"""Tempo maps of straight pieces, and where the moments of a sheet lie by a map."""

from anytempo.amounts import Amount, as_amount, is_amount, on_one_bottom
from anytempo.errors import Falling, InvalidMap, InvalidPart, InvalidPoint
from anytempo.sheets import check_sheet
from anytempo.validation import is_listing


class TempoMap:
    """A function from beats to seconds that rises by straight pieces; a map never changes."""

    def __init__(self, points=()):
        # Only points at which the pace changes are kept, so that equal maps have equal points.
        self._points = _standard(_told_points(points))
        self._turned = _exchanged(self._points)

    def __call__(self, beat):
        return _taken(self._points, as_amount(beat))

    def __eq__(self, other):
        return isinstance(other, TempoMap) and self._points == other._points

    def beat_of(self, second):
        """The beat that the map takes to a second."""
        return _taken(self._turned, as_amount(second))

    def pace(self, beat):
        """The seconds by which the map rises for each beat directly behind a beat."""
        return _pace(self._points, _reached(self._points, as_amount(beat)))

    def points(self):
        """The points at which the pace changes, ascending, or else the one point with the beat 0."""
        return list(self._points)

    def inverse(self):
        """The map that takes seconds to beats as this one takes beats to seconds."""
        return TempoMap(self._turned)

    def then(self, other):
        """The map that takes each beat to where another map takes the second of this one."""
        check_map(other)
        own = [beat for beat, _ in self._points]
        led = [_taken(self._turned, beat) for beat, _ in other._points]
        beats = _merged(own, led)
        return TempoMap([(beat, _taken(other._points, _taken(self._points, beat))) for beat in beats])


def _told_points(points):
    """The points that were told, checked, as tuples of Amount objects."""
    if not is_listing(points):
        raise InvalidPart(points)
    found = []
    for index, item in enumerate(points):
        if not is_listing(item) or len(item) != 2 or not is_amount(item[0]) or not is_amount(item[1]):
            raise InvalidPoint(item)
        point = (as_amount(item[0]), as_amount(item[1]))
        if index > 0 and not _rises(found[-1], point):
            raise Falling(index)
        found.append(point)
    return found


def _rises(one, other):
    """Whether the beat and the second of a point are greater than those of another one."""
    return one[0].compare(other[0]) < 0 and one[1].compare(other[1]) < 0


def _standard(points):
    """Those of the points at which the pace changes, or the one point with the beat 0."""
    if len(points) == 0:
        return [(Amount(0), Amount(0))]
    paces = [_pace(points, index) for index in range(len(points) + 1)]
    found = [points[index] for index in range(len(points)) if paces[index] != paces[index + 1]]
    return found if len(found) > 0 else [(Amount(0), _taken(points, Amount(0)))]


def _pace(points, index):
    """The pace from before the point with an index on; 1 before the first point and behind the last one."""
    if index == 0 or index == len(points):
        return Amount(1)
    beat, second = points[index - 1]
    next_beat, next_second = points[index]
    return (next_second - second).divided(next_beat - beat)


def _reached(points, beat):
    """How many of the points have a beat that is not greater than this one."""
    low, high = 0, len(points)
    while low < high:
        middle = (low + high) // 2
        if points[middle][0].compare(beat) <= 0:
            low = middle + 1
        else:
            high = middle
    return low


def _taken(points, beat):
    """The second to which a map with these points takes a beat."""
    index = _reached(points, beat)
    from_beat, from_second = points[max(index - 1, 0)]
    return from_second + (beat - from_beat) * _pace(points, index)


def _exchanged(points):
    """The points with beats and seconds exchanged."""
    return [(second, beat) for beat, second in points]


def _merged(one, other):
    """The amounts of two ascending lists as one ascending list, each amount once."""
    found = []
    at = 0
    for amount in one:
        while at < len(other) and other[at].compare(amount) < 0:
            found.append(other[at])
            at += 1
        if at < len(other) and other[at] == amount:
            at += 1
        found.append(amount)
    return found + other[at:]


def check_map(tempo):
    """Raises InvalidMap for what is not a tempo map."""
    if not isinstance(tempo, TempoMap):
        raise InvalidMap(tempo)


def places(sheet, tempo):
    """The beat and the second of each moment of a sheet by a tempo map, in the order of their numbers."""
    check_sheet(sheet)
    check_map(tempo)
    rows = sheet.moments()
    found = [(Amount(0), tempo(0))]
    for row in rows[1:]:
        unit, amount = row[-1]
        beat, second = found[rows.index(row[:-1])]
        if unit == "beats":
            beat = beat + amount
            second = tempo(beat)
        else:
            second = second + amount
            beat = tempo.beat_of(second)
        found.append((beat, second))
    return found


def order_by(sheet, tempo):
    """The order of a sheet by a tempo map: groups of moments, the earliest first."""
    tops = on_one_bottom([place[0] for place in places(sheet, tempo)])[0]
    return [[number for number in range(len(tops)) if tops[number] == top] for top in sorted(set(tops))]
