"""What is possible for two cues, with a tempo map or a tree of cases as evidence."""

from anytempo.cases import can_be, decided, rows_of
from anytempo.facts import check_facts
from anytempo.nets import begun
from anytempo.orders import order_map
from anytempo.sheets import check_known, check_sheet
from anytempo.trees import shows
from anytempo.validation import WORDS, check_word


def possible(sheet, one, other, *, facts=()):
    """The words that are right for two cues by some tempo map by which all facts hold."""
    check_sheet(sheet)
    check_known(sheet, one)
    check_known(sheet, other)
    check_facts(sheet, facts)
    start = begun(sheet, facts)
    return [word for word in WORDS if can_be(start, [(sheet.moment(one), word, sheet.moment(other))])]


def why(sheet, one, word, other, *, facts=()):
    """A tempo map by which a word is right and all facts hold, or a tree that shows that there is none."""
    _check_word_of(sheet, one, word, other, facts)
    return _evidence(sheet, facts, [(sheet.moment(one), word, sheet.moment(other))])


def shows_tree(sheet, one, word, other, rows, *, facts=()):
    """Whether a value is a tree which shows that the word contradicts the facts."""
    _check_word_of(sheet, one, word, other, facts)
    return shows(sheet, facts, [(sheet.moment(one), word, sheet.moment(other))], rows)


def meets(sheet, facts):
    """A tempo map by which all facts hold, or a tree that shows that they contradict each other."""
    check_sheet(sheet)
    check_facts(sheet, facts)
    return _evidence(sheet, facts, [])


def shows_conflict(sheet, facts, rows):
    """Whether a value is a tree which shows that the facts contradict each other."""
    check_sheet(sheet)
    check_facts(sheet, facts)
    return shows(sheet, facts, [], rows)


def conflict(sheet, facts):
    """The indices of some facts of which all but any one can hold together, but not all, or None if all facts can."""
    check_sheet(sheet)
    check_facts(sheet, facts)
    if can_hold(sheet, facts):
        return None
    kept = list(range(len(facts)))
    for index in range(len(facts)):
        left = [other for other in kept if other != index]
        if not can_hold(sheet, [facts[other] for other in left]):
            kept = left
    return kept


def can_hold(sheet, facts):
    """Whether all facts hold by some tempo map."""
    return can_be(begun(sheet, facts), [])


def _check_word_of(sheet, one, word, other, facts):
    """Raises what is wrong with a word of two cues."""
    check_sheet(sheet)
    check_known(sheet, one)
    check_word(word)
    check_known(sheet, other)
    check_facts(sheet, facts)


def _evidence(sheet, facts, words):
    """A tempo map by which words are right for moments and all facts hold, or a tree that shows that there is none."""
    net, tree = decided(begun(sheet, facts), words)
    if net is None:
        return ("tree", rows_of(tree))
    return order_map(sheet, net.order(), facts=facts)
