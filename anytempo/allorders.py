"""All orders that a sheet can have, and what is possible and sure in all of them."""

from anytempo.errors import InvalidInteger, TooMany
from anytempo.facts import check_facts
from anytempo.nets import first_nets
from anytempo.orders import group_indices
from anytempo.sheets import check_sheet
from anytempo.validation import WORDS, is_integer

MOST_ORDERS = 20000


def orders(sheet, *, facts=()):
    """Each possible order of a sheet, once."""
    _check(sheet, facts)
    for net in _whole_nets(sheet, facts):
        yield net.order()


def order_list(sheet, *, facts=(), most=20):
    """All possible orders, ascending."""
    _check(sheet, facts)
    _check_most(most)
    found = []
    for net in _whole_nets(sheet, facts):
        if len(found) == most:
            raise TooMany(most)
        found.append(net.order())
    return sorted(found, key=group_indices)


def order_count(sheet, *, facts=(), most=20):
    """How many possible orders there are."""
    _check(sheet, facts)
    _check_most(most)
    found = 0
    for _ in _whole_nets(sheet, facts):
        if found == most:
            raise TooMany(most)
        found = found + 1
    return found


def ranks(sheet, cue, *, facts=()):
    """The ranks that a cue has in the possible orders, ascending."""
    check_sheet(sheet)
    # Unlike a moment, a cue is asked for by a name that is not the start.
    sheet.cue(cue)
    check_facts(sheet, facts)
    number = sheet.moment(cue)
    return sorted(_gathered(sheet, facts, lambda net: net.ranks(number)))


def can_be_first(sheet, *, facts=()):
    """The names of the cues before which no cue comes in some possible order."""
    return _at_an_end(sheet, "before", facts)


def can_be_last(sheet, *, facts=()):
    """The names of the cues after which no cue comes in some possible order."""
    return _at_an_end(sheet, "after", facts)


def _at_an_end(sheet, word, facts):
    """The names of the cues of which no cue lies on one side in some possible order."""
    _check(sheet, facts)
    numbers = [sheet.moment(name) for name in sheet.names()]
    found = _gathered(sheet, facts, lambda net: net.ends(word, numbers))
    return [name for name in sheet.names() if sheet.moment(name) in found]


def sure_words(sheet, *, facts=()):
    """Tuples (one, word, other) for each two cues of which only one word is possible."""
    _check(sheet, facts)
    names = sheet.names()
    words = _gathered(sheet, facts, lambda net: net.words())
    found = []
    for index, one in enumerate(names):
        for other in names[index + 1:]:
            told = [word for word in WORDS if (sheet.moment(one), word, sheet.moment(other)) in words]
            if len(told) == 1:
                found.append((one, told[0], other))
    return found


def _check(sheet, facts):
    """Raises what is wrong with a sheet and facts about it."""
    check_sheet(sheet)
    check_facts(sheet, facts)


def _check_most(most):
    """Raises InvalidInteger for what cannot be a number of orders to be told."""
    if not is_integer(most, 1, MOST_ORDERS):
        raise InvalidInteger(most)


def _whole_nets(sheet, facts):
    """A net in which no pair is open for each possible order."""
    nets = first_nets(sheet, facts)
    while len(nets) > 0:
        net = nets.pop()
        pair = net.open_pair()
        if pair is None:
            yield net
        else:
            nets.extend(net.below(pair))


def _gathered(sheet, facts, told):
    """All items that are told of the possible orders, as keys of a dict.

    Of a net in which a pair is open, at least the items are told that are told of the nets below.
    """
    found = {}
    nets = first_nets(sheet, facts)
    while len(nets) > 0:
        net = nets.pop()
        if all([item in found for item in told(net)]):
            continue
        pair = net.open_pair()
        if pair is None:
            for item in told(net):
                found[item] = True
        else:
            nets.extend(net.below(pair))
    return found
