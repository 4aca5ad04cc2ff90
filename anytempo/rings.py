"""Rings: steps from moment to moment and back that contradict each other in one unit.

The steps that are right in a unit are kept in a dict; each of them, a tuple (kind, one, other), has as its value the
tuple (amount, strict) of what it says: the moment other lies at least the amount after the moment one, or more.
"""

from anytempo.amounts import Amount, on_one_bottom
from anytempo.facts import names_of, sayings, strongest
from anytempo.validation import UNITS, is_whole

MOST_STEPS = 40
# What the steps of these two kinds weigh: their amount is 0, and a later one is strict.
WEIGHTS = {"later": 1, "same": 0}


def told_steps(sheet, unit, relations, facts):
    """All steps that are right in a unit; relations are those of the kinds "later" and "same"."""
    count = len(sheet.moments())
    said = sayings(sheet, facts)
    found = {}
    for one in range(count):
        for other in range(count):
            amount = sheet.distance(unit, one, other)
            if amount is not None:
                found[("shift", one, other)] = (amount, False)
            least = strongest(said, unit, one, other)
            if least is not None:
                found[("fact", one, other)] = least
    for kind, one, other in relations:
        found[(kind, one, other)] = (Amount(0), kind == "later")
    return found


def told_words(sheet, facts):
    """Tuples (one, word, other) of two moments: what the lines tell of them, and then what the facts of order do."""
    count = len(sheet.moments())
    found = []
    for unit in UNITS:
        for one in range(count):
            for other in range(one):
                amount = sheet.distance(unit, one, other)
                if amount is not None:
                    found.append((one, "before" if amount.top > 0 else "after", other))
    for fact in facts:
        if fact[0] == "order":
            one, other = [sheet.moment(name) for name in names_of(fact)]
            found.append((one, fact[2], other))
    return found


def word_steps(one, word, other):
    """The steps that say what a word says of two moments."""
    if word == "same":
        return [("same", one, other), ("same", other, one)]
    return [("later", one, other)] if word == "before" else [("later", other, one)]


def weighed(told, most):
    """An integer for each told step, and the bottom for which it stands.

    The sum of the integers of at most so many steps is greater than 0 exactly if the sum of their amounts is, or if
    this sum is 0 and a step is strict.
    """
    # A strict step counts one more than its amount, and each amount a multiple of more than the number of steps; so
    # the ones never add up to a difference of two sums of amounts.
    tops, bottom = on_one_bottom([amount for amount, _ in told.values()])
    weights = {}
    for top, step in zip(tops, told):
        weights[step] = top * (most + 1) + (1 if told[step][1] else 0)
    return weights, bottom


def is_ring(steps, weights):
    """Whether a value is a list of steps that is a ring; weights has the right steps, weighed for forty of them."""
    if not isinstance(steps, list) or not 1 <= len(steps) <= MOST_STEPS:
        return False
    if not all([_is_step(step) and step in weights for step in steps]):
        return False
    # The step at the index -1, the last one, leads to the first one.
    if not all([steps[index - 1][2] == steps[index][1] for index in range(len(steps))]):
        return False
    return sum([weights[step] for step in steps]) > 0


def _is_step(value):
    """Whether a value is a tuple of a string and two integers."""
    # True and False would be found in a dict as 1 and 0.
    if not isinstance(value, tuple) or len(value) != 3:
        return False
    return isinstance(value[0], str) and is_whole(value[1]) and is_whole(value[2])


def settled(count, told):
    """For each moment an amount, 0 for the first one, by which all told steps are right; None if there are none."""
    # Without a ring, a way without detours has fewer steps than there are moments, and a ring without them no more.
    weights, bottom = weighed(told, count)
    heights = [0] * count
    for _ in range(count):
        raised = _raised(heights, weights)
        if raised == heights:
            return [Amount(height - heights[0], bottom * (count + 1)) for height in heights]
        heights = raised
    return None


def _raised(heights, weights):
    """The heights, each one raised to where the steps that lead to it demand."""
    found = list(heights)
    for step, weight in weights.items():
        _, one, other = step
        found[other] = max(found[other], found[one] + weight)
    return found


def shortest_ring(count, told):
    """A ring of told steps with as few steps as possible, or None if there is none."""
    weights = weighed(told, count)[0]
    walks = [{start: (0, [])} for start in range(count)]
    for _ in range(count):
        walks = [_lengthened(walk, weights) for walk in walks]
        for start in range(count):
            weight, steps = walks[start].get(start, (0, []))
            if weight > 0:
                return steps
    return None


def _lengthened(walk, weights):
    """The heaviest walks, by their ends, that are one step longer than those of a walk."""
    found = {}
    for step, weight in weights.items():
        _, one, other = step
        if one in walk:
            heavier = walk[one][0] + weight
            if other not in found or heavier > found[other][0]:
                found[other] = (heavier, walk[one][1] + [step])
    return found
