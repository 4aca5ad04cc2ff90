"""Ranges: which amounts of a unit can lie from one cue to another one.

While they are reckoned, a span is a tuple (low, high) of integers, or None for no end: the one value if both are equal,
and otherwise all values between them.
"""

from anytempo.amounts import is_amount
from anytempo.cases import decided
from anytempo.errors import InvalidAmount
from anytempo.facts import check_facts
from anytempo.nets import begun, first_nets
from anytempo.orders import order_map
from anytempo.sheets import check_known, check_sheet
from anytempo.validation import check_unit


def ranges(sheet, unit, one, other, *, facts=()):
    """The amounts that can lie from one cue to another one, as the largest intervals and the other single values."""
    _check_cues(sheet, unit, one, other)
    check_facts(sheet, facts)
    nets = first_nets(sheet, facts)
    if len(nets) == 0:
        return []
    first = nets[0]
    spans = []
    while len(nets) > 0:
        net = nets.pop()
        span = net.span(unit, sheet.moment(one), sheet.moment(other))
        if any([_contains(known, span) for known in spans]):
            continue
        pair = net.open_pair()
        if pair is None:
            spans = united(spans + [span])
        else:
            nets.extend(net.below(pair))
    return [(first.amount(unit, low), first.amount(unit, high)) for low, high in spans]


def map_with(sheet, unit, one, other, amount, *, facts=()):
    """A tempo map by which all facts hold and this amount lies from one cue to another one, or None."""
    _check_cues(sheet, unit, one, other)
    if not is_amount(amount):
        raise InvalidAmount(amount)
    check_facts(sheet, facts)
    told = [*facts, ("apart", unit, one, other, amount)]
    net, _ = decided(begun(sheet, told), [])
    return None if net is None else order_map(sheet, net.order(), facts=told)[1]


def hull(sheet, unit, one, other, *, facts=()):
    """The lowest and the highest end of the ranges, and for each whether it is a value itself, or None."""
    found = ranges(sheet, unit, one, other, facts=facts)
    if len(found) == 0:
        return None
    return (found[0][0], _is_single(found[0]), found[-1][1], _is_single(found[-1]))


def _check_cues(sheet, unit, one, other):
    """Raises what is wrong with a unit and two cues of a sheet."""
    check_sheet(sheet)
    check_unit(unit)
    check_known(sheet, one)
    check_known(sheet, other)


def _is_single(span):
    """Whether a span stands for one value."""
    return span[0] is not None and span[0] == span[1]


def _contains(span, other):
    """Whether all values of another span are values of a span."""
    if _is_single(span):
        return span == other
    low, high = span
    if _is_single(other):
        return (low is None or low < other[0]) and (high is None or other[0] < high)
    low_fits = low is None or (other[0] is not None and low <= other[0])
    return low_fits and (high is None or (other[1] is not None and other[1] <= high))


def united(spans):
    """The largest intervals that the values of spans make up, and the single values that lie in none of them."""
    found = []
    for span in sorted(spans, key=_beginning):
        if len(found) > 0 and _contains(found[-1], span):
            continue
        if not _is_single(span) and len(found) > 0 and _overlap(found[-1], span):
            found[-1] = (found[-1][0], span[1])
        elif not _is_single(span) and len(found) > 1 and _is_bridge(found[-2], found[-1], span):
            found = found[:-2] + [(found[-2][0], span[1])]
        else:
            found.append(span)
    return found


def _beginning(span):
    """What spans are sorted by: those without an end first, and single values before intervals that begin there."""
    if span[0] is None:
        return (0, 0, 0)
    return (1, span[0], 0 if _is_single(span) else 1)


def _overlap(span, other):
    """Whether an interval that does not begin earlier has values of a span, and goes on."""
    if _is_single(span):
        return False
    return span[1] is None or other[0] is None or other[0] < span[1]


def _is_bridge(span, single, other):
    """Whether a single value closes the gap between an interval and a later one."""
    return not _is_single(span) and _is_single(single) and span[1] == single[0] == other[0]
