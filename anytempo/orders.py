"""Orders of a sheet: whether some tempo map has them, and rings for those that none has."""

from anytempo.errors import InvalidOrder
from anytempo.facts import check_facts, names_of
from anytempo.maps import TempoMap
from anytempo.rings import MOST_STEPS, is_ring, settled, shortest_ring, told_steps, weighed
from anytempo.sheets import check_sheet
from anytempo.validation import UNITS, is_integer, is_listing, is_unit


def is_order(sheet, value):
    """Whether a value is an order of the sheet, in any order of the numbers within a group."""
    check_sheet(sheet)
    if not is_listing(value):
        return False
    numbers = []
    for group in value:
        if not is_listing(group) or len(group) == 0:
            return False
        numbers.extend(group)
    count = len(sheet.moments())
    # Only integers are put into a set; other values may not be able to stand there.
    if len(numbers) != count or not all([is_integer(number, 0, count - 1) for number in numbers]):
        return False
    return len(set(numbers)) == count


def order_map(sheet, order, *, facts=()):
    """A tempo map by which the sheet has an order and all facts hold, or what shows that there is none."""
    _check_order(sheet, order, facts)
    ranks = group_indices(order)
    wrong = _wrong_fact(sheet, ranks, facts)
    if wrong is not None:
        return ("fact", wrong)
    found = []
    for unit in UNITS:
        told = told_steps(sheet, unit, _relations(ranks), facts)
        amounts = settled(len(ranks), told)
        if amounts is None:
            return ("ring", unit, shortest_ring(len(ranks), told))
        found.append(amounts)
    beats, seconds = found
    return ("map", TempoMap([(beats[group[0]], seconds[group[0]]) for group in order]))


def shows_ring(sheet, order, unit, steps, *, facts=()):
    """Whether two values are a unit and a ring in it, each step of which is right for an order."""
    _check_order(sheet, order, facts)
    if not is_unit(unit):
        return False
    told = told_steps(sheet, unit, _relations(group_indices(order)), facts)
    return is_ring(steps, weighed(told, MOST_STEPS)[0])


def _check_order(sheet, order, facts):
    """Raises what is wrong with a sheet, an order of it and facts about it."""
    if not is_order(sheet, order):
        raise InvalidOrder(order)
    check_facts(sheet, facts)


def group_indices(order):
    """For each moment the index of its group."""
    found = {}
    for index, group in enumerate(order):
        for number in group:
            found[number] = index
    return [found[number] for number in range(len(found))]


def _word(ranks, one, other):
    """How a moment lies with regard to another one."""
    if ranks[one] == ranks[other]:
        return "same"
    return "before" if ranks[one] < ranks[other] else "after"


def _wrong_fact(sheet, ranks, facts):
    """The index of the first fact of order that is not right, or None if all are."""
    for index, fact in enumerate(facts):
        if fact[0] == "order":
            one, other = [sheet.moment(name) for name in names_of(fact)]
            if _word(ranks, one, other) != fact[2]:
                return index
    return None


def _relations(ranks):
    """The steps "later" and "same" that are right."""
    kinds = {"before": "later", "same": "same"}
    found = []
    for one in range(len(ranks)):
        for other in range(len(ranks)):
            word = _word(ranks, one, other)
            if word in kinds:
                found.append((kinds[word], one, other))
    return found
