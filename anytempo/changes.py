"""Changes of a sheet and facts about it; each function takes what a command told and returns the new ones."""

from anytempo.edits import dropped, exchanged, hung, inserted, nudged, renamed, reversed_sheet, stretched
from anytempo.errors import NotPossible, TooMany, UnknownFact
from anytempo.facts import check_fact, names_of
from anytempo.relations import conflict
from anytempo.validation import other_unit, turned

MOST_FACTS = 6


def _insert(sheet, facts, told):
    """A new cue; facts stay."""
    return _with_facts(inserted(sheet, *told), facts)


def _drop(sheet, facts, told):
    """Without a cue about which there are no facts."""
    name = told[0]
    new = dropped(sheet, name)
    for index, fact in enumerate(facts):
        if name in names_of(fact):
            raise UnknownFact(index)
    return new, facts


def _rename(sheet, facts, told):
    """Another name of a cue, in the facts as well."""
    name, new = told
    return renamed(sheet, name, new), [_fact_renamed(fact, name, new) for fact in facts]


def _fact_renamed(fact, name, new):
    """A fact in which a cue has another name."""
    one, other = [new if own == name else own for own in names_of(fact)]
    if fact[0] == "order":
        return (fact[0], one, fact[2], other)
    return (*fact[:2], one, other, *fact[4:])


def _nudge(sheet, facts, told):
    """A cue lies later; facts stay."""
    return _with_facts(nudged(sheet, *told), facts)


def _hang(sheet, facts, told):
    """Another parent of a cue; facts stay."""
    return _with_facts(hung(sheet, *told), facts)


def _exchange(sheet, facts, told):
    """Beats and seconds exchanged, in the facts as well."""
    return exchanged(sheet), [_fact_exchanged(fact) for fact in facts]


def _fact_exchanged(fact):
    """A fact with the other unit."""
    return fact if fact[0] == "order" else (fact[0], other_unit(fact[1]), *fact[2:])


def _reverse(sheet, facts, told):
    """Time turned about, in the facts as well."""
    return reversed_sheet(sheet), [_fact_reversed(fact) for fact in facts]


def _fact_reversed(fact):
    """A fact for time that is turned about."""
    if fact[0] == "order":
        return (*fact[:2], turned(fact[2]), fact[3])
    limits = [None if limit is None else -limit for limit in fact[4:]]
    return (*fact[:4], *limits[::-1])


def _stretch(sheet, facts, told):
    """All amounts of a unit multiplied, in the facts as well."""
    unit, by = told
    return stretched(sheet, unit, by), [_fact_stretched(fact, unit, by) for fact in facts]


def _fact_stretched(fact, unit, by):
    """A fact in which the amounts of a unit are multiplied."""
    if fact[0] == "order" or fact[1] != unit:
        return fact
    limits = [None if limit is None else limit * by for limit in fact[4:]]
    return (*fact[:4], *limits)


def _fact(sheet, facts, told):
    """One more fact."""
    check_fact(sheet, told[0])
    if len(facts) >= MOST_FACTS:
        raise TooMany(MOST_FACTS)
    return _with_facts(sheet, facts + told)


def _forget(sheet, facts, told):
    """One fact less."""
    index = told[0]
    if index >= len(facts):
        raise UnknownFact(index)
    return sheet, facts[:index] + facts[index + 1:]


def _with_facts(sheet, facts):
    """A sheet and facts about it, which can hold together."""
    indices = conflict(sheet, facts)
    if indices is not None:
        raise NotPossible(indices)
    return sheet, facts


CHANGES = {
    "insert": _insert,
    "drop": _drop,
    "rename": _rename,
    "nudge": _nudge,
    "hang": _hang,
    "exchange": _exchange,
    "reverse": _reverse,
    "stretch": _stretch,
    "fact": _fact,
    "forget": _forget,
}
