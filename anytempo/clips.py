"""Clips: which of them can and must be at once, and how they are dealt to lanes."""

from anytempo.cases import can_be, decided
from anytempo.errors import Duplicate, InvalidClip, InvalidPart, Turned
from anytempo.facts import check_facts
from anytempo.nets import begun
from anytempo.orders import order_map
from anytempo.sheets import check_known, check_sheet
from anytempo.validation import is_listing, is_name


def can_meet(sheet, clips, *, facts=()):
    """Tuples of the names of each two clips that can be at once."""
    start = _begun(sheet, clips, facts)
    return [(one[0], other[0]) for one, other in _meeting_pairs(sheet, clips, start)]


def must_meet(sheet, clips, *, facts=()):
    """Tuples of the names of each two clips that are surely at once."""
    start = _begun(sheet, clips, facts)
    return [(one[0], other[0]) for one, other in _pairs(clips)
            if _is_sure(sheet, start, one[1], other[2]) and _is_sure(sheet, start, other[1], one[2])]


def meeting(sheet, clips, *, facts=()):
    """A tempo map by which all clips are at once and all facts hold, or None."""
    start = _begun(sheet, clips, facts)
    net, _ = decided(start, _words(sheet, clips))
    return None if net is None else order_map(sheet, net.order(), facts=facts)[1]


def most_at_once(sheet, clips, *, facts=()):
    """The names of as many clips as can be at once, and a tempo map by which they are; ([], None) if none sounds."""
    start = _begun(sheet, clips, facts)
    best = None
    groups = [[]]
    while len(groups) > 0:
        longer = []
        for group in groups:
            for index in range(group[-1] + 1 if len(group) > 0 else 0, len(clips)):
                # Clips that are at once are so without the one before the last one, too.
                if len(group) > 0 and group[:-1] + [index] not in groups:
                    continue
                net, _ = decided(start, _words(sheet, [clips[other] for other in group + [index]]))
                if net is not None:
                    longer.append(group + [index])
                    best = (group + [index], net)
        groups = longer
    if best is None:
        return ([], None)
    group, net = best
    return ([clips[index][0] for index in group], order_map(sheet, net.order(), facts=facts)[1])


def lanes(sheet, clips, *, facts=()):
    """As few lists of names as possible, with no two clips in one list that can be at once."""
    start = _begun(sheet, clips, facts)
    meetings = [(one[0], other[0]) for one, other in _meeting_pairs(sheet, clips, start)]
    names = [clip[0] for clip in clips]
    count = 0
    found = _dealt(names, [], count, meetings)
    while found is None:
        count = count + 1
        found = _dealt(names, [], count, meetings)
    return found


def fits(sheet, clips, dealt, *, facts=()):
    """Whether a value is a list of lists in which each clip stands once and no two of one list can be at once."""
    start = _begun(sheet, clips, facts)
    if not is_listing(dealt) or not all([is_listing(lane) for lane in dealt]):
        return False
    told = [name for lane in dealt for name in lane]
    if not all([isinstance(name, str) for name in told]) or sorted(told) != sorted([clip[0] for clip in clips]):
        return False
    return not any([one[0] in lane and other[0] in lane
                    for one, other in _meeting_pairs(sheet, clips, start) for lane in dealt])


def _begun(sheet, clips, facts):
    """The start of the search for orders, after all that can be wrong with a sheet, clips and facts is raised."""
    check_sheet(sheet)
    _check_clips(sheet, clips)
    check_facts(sheet, facts)
    start = begun(sheet, facts)
    for name, begin, end in clips:
        if not _is_sure(sheet, start, begin, end):
            raise Turned(name)
    return start


def _check_clips(sheet, clips):
    """Raises what is wrong with a list of clips, except that one is not forward."""
    if not is_listing(clips):
        raise InvalidPart(clips)
    names = []
    for item in clips:
        if not is_listing(item) or len(item) != 3 or not is_name(item[0]):
            raise InvalidClip(item)
        name, begin, end = item
        if name in names:
            raise Duplicate(name)
        names.append(name)
        check_known(sheet, begin)
        check_known(sheet, end)


def _is_sure(sheet, start, one, other):
    """Whether a cue surely comes before another one."""
    return not any([can_be(start, [(sheet.moment(one), word, sheet.moment(other))]) for word in ["same", "after"]])


def _words(sheet, clips):
    """The words that are right exactly if all clips are at once: each beginning comes before each end."""
    return [(sheet.moment(one[1]), "before", sheet.moment(other[2])) for one in clips for other in clips]


def _pairs(clips):
    """Each two of the clips, in their order."""
    return [(clips[index], other) for index in range(len(clips)) for other in clips[index + 1:]]


def _meeting_pairs(sheet, clips, start):
    """Each two of the clips that can be at once."""
    return [pair for pair in _pairs(clips) if can_be(start, _words(sheet, pair))]


def _dealt(names, found, count, meetings):
    """The lanes found with the other names dealt as well, at most so many lanes, or None if they do not suffice."""
    if len(names) == 0:
        return found
    name = names[0]
    for index, lane in enumerate(found):
        if not any([(other, name) in meetings for other in lane]):
            dealt = _dealt(names[1:], found[:index] + [lane + [name]] + found[index + 1:], count, meetings)
            if dealt is not None:
                return dealt
    # Which one of the empty lanes a clip takes makes no difference.
    return _dealt(names[1:], found + [[name]], count, meetings) if len(found) < count else None
