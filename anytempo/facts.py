"""Facts: what was heard or measured of two cues, which holds or does not hold by a tempo map."""

from anytempo.amounts import as_amount, is_amount
from anytempo.errors import InvalidFact, InvalidPart
from anytempo.maps import places
from anytempo.sheets import check_known, check_moment, check_sheet
from anytempo.validation import check_unit, is_listing, is_unit, is_word

SIDES = {"before": -1, "same": 0, "after": 1}


def is_fact(value):
    """Whether a value is a tuple of the form of a fact, whatever its names are."""
    return isinstance(value, tuple) and has_form(value)


def has_form(value):
    """Whether a list or tuple has the items of a fact, whatever its names are."""
    if len(value) == 4:
        return value[0] == "order" and is_word(value[2])
    if len(value) == 5:
        return value[0] == "apart" and is_unit(value[1]) and is_amount(value[4])
    if len(value) == 6:
        return value[0] == "between" and is_unit(value[1]) and _is_limit(value[4]) and _is_limit(value[5])
    return False


def _is_limit(value):
    """Whether a value is an amount, or None for no limit."""
    return value is None or is_amount(value)


def names_of(fact):
    """The two names in a fact, in its order."""
    return (fact[1], fact[3]) if fact[0] == "order" else (fact[2], fact[3])


def check_fact(sheet, fact):
    """Raises what is wrong with a fact about a sheet."""
    if not is_listing(fact) or not has_form(fact):
        raise InvalidFact(fact)
    for name in names_of(fact):
        check_known(sheet, name)


def check_facts(sheet, facts):
    """Raises what is wrong with a list of facts about a sheet."""
    if not is_listing(facts):
        raise InvalidPart(facts)
    for fact in facts:
        check_fact(sheet, fact)


def holds(sheet, fact, tempo):
    """Whether a fact holds by a tempo map."""
    check_sheet(sheet)
    check_fact(sheet, fact)
    return _holds(sheet, fact, places(sheet, tempo))


def broken(sheet, facts, tempo):
    """The indices of the facts that do not hold by a tempo map, in ascending order."""
    check_sheet(sheet)
    check_facts(sheet, facts)
    found = places(sheet, tempo)
    return [index for index in range(len(facts)) if not _holds(sheet, facts[index], found)]


def _holds(sheet, fact, found):
    """Whether a fact holds where the moments lie at the places that were found."""
    one, other = [found[sheet.moment(name)] for name in names_of(fact)]
    if fact[0] == "order":
        return one[0].compare(other[0]) == SIDES[fact[2]]
    at = 0 if fact[1] == "beats" else 1
    amount = other[at] - one[at]
    if fact[0] == "apart":
        return amount.compare(fact[4]) == 0
    low, high = fact[4:]
    return (low is None or amount.compare(low) > 0) and (high is None or amount.compare(high) < 0)


def sayings(sheet, facts):
    """What facts say: tuples (unit, one, other, amount, strict) of how far, at least, other lies after one."""
    found = []
    for fact in facts:
        if fact[0] == "order":
            continue
        unit = fact[1]
        one, other = [sheet.moment(name) for name in names_of(fact)]
        strict = fact[0] == "between"
        low, high = fact[4:] if strict else (fact[4], fact[4])
        if low is not None:
            found.append((unit, one, other, as_amount(low), strict))
        if high is not None:
            found.append((unit, other, one, -as_amount(high), strict))
    return found


def strongest(told, unit, one, other):
    """The tuple (amount, strict) that says most of two moments, among sayings, or None if none says anything."""
    best = None
    for saying in told:
        if saying[:3] != (unit, one, other):
            continue
        amount, strict = saying[3:]
        side = 1 if best is None else amount.compare(best[0])
        if side > 0:
            best = (amount, strict)
        elif side == 0:
            best = (amount, strict or best[1])
    return best


def bound(sheet, unit, one, other, *, facts=()):
    """How far, at least, a moment lies after another one by a single fact, and whether it lies further."""
    check_sheet(sheet)
    check_unit(unit)
    check_moment(sheet, one)
    check_moment(sheet, other)
    check_facts(sheet, facts)
    return strongest(sayings(sheet, facts), unit, one, other)
