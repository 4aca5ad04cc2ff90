"""Rings: steps from moment to moment and back that contradict each other in one unit.

The steps that are right in a unit are kept in a dict; each of them, a tuple (kind, one, other), has as its value the
tuple (amount, strict) of what it says: the moment other lies at least the amount after the moment one, or more.
"""

from anytempo.amounts import Amount, on_one_bottom, total
from anytempo.facts import sayings, strongest
from anytempo.validation import is_whole

MOST_STEPS = 40


def told_steps(sheet, unit, relations, facts):
    """All steps that are right in a unit; relations are those of the kinds "later" and "same"."""
    count = len(sheet.moments())
    said = sayings(sheet, facts)
    found = {}
    for one in range(count):
        for other in range(count):
            amount = sheet.distance(unit, one, other)
            if amount is not None:
                found[("shift", one, other)] = (amount, False)
            least = strongest(said, unit, one, other)
            if least is not None:
                found[("fact", one, other)] = least
    for kind, one, other in relations:
        found[(kind, one, other)] = (Amount(0), kind == "later")
    return found


def is_ring(steps, told):
    """Whether a value is a list of told steps that is a ring."""
    if not isinstance(steps, list) or not 1 <= len(steps) <= MOST_STEPS:
        return False
    if not all([_is_step(step) and step in told for step in steps]):
        return False
    # The step at the index -1, the last one, leads to the first one.
    if not all([steps[index - 1][2] == steps[index][1] for index in range(len(steps))]):
        return False
    amounts = [told[step][0] for step in steps]
    side = total(*amounts).compare(0)
    return side > 0 or (side == 0 and any([told[step][1] for step in steps]))


def _is_step(value):
    """Whether a value is a tuple of a string and two integers."""
    # True and False would be found in a dict as 1 and 0.
    if not isinstance(value, tuple) or len(value) != 3:
        return False
    return isinstance(value[0], str) and is_whole(value[1]) and is_whole(value[2])


def settled(count, told):
    """For each moment an amount, 0 for the first one, by which all told steps are right; None if there are none."""
    weights, scale = _weighed(count, told)
    heights = [0] * count
    for _ in range(count):
        raised = _raised(heights, weights)
        if raised == heights:
            return [Amount(height - heights[0], scale) for height in heights]
        heights = raised
    # Without a ring, the way to each moment that raises it most has fewer steps than there are moments.
    return None


def _raised(heights, weights):
    """The heights, each one raised to where the steps that lead to it demand."""
    found = list(heights)
    for step, weight in weights.items():
        _, one, other = step
        found[other] = max(found[other], found[one] + weight)
    return found


def _weighed(count, told):
    """An integer for each told step, and the integer that stands for the amount 1."""
    # A ring without detours has at most as many steps as there are moments. So if a strict step counts one more than
    # its amount, and each amount a multiple of more than this number, a sum of these integers is greater than 0
    # exactly if the steps are a ring.
    tops, bottom = on_one_bottom([amount for amount, _ in told.values()])
    weights = {}
    for top, step in zip(tops, told):
        weights[step] = top * (count + 1) + (1 if told[step][1] else 0)
    return weights, bottom * (count + 1)


def shortest_ring(count, told):
    """A ring of told steps with as few steps as possible, or None if there is none."""
    weights = _weighed(count, told)[0]
    walks = [{start: (0, [])} for start in range(count)]
    for _ in range(count):
        walks = [_lengthened(walk, weights) for walk in walks]
        for start in range(count):
            weight, steps = walks[start].get(start, (0, []))
            if weight > 0:
                return steps
    return None


def _lengthened(walk, weights):
    """The heaviest walks, by their ends, that are one step longer than those of a walk."""
    found = {}
    for step, weight in weights.items():
        _, one, other = step
        if one in walk:
            heavier = walk[one][0] + weight
            if other not in found or heavier > found[other][0]:
                found[other] = (heavier, walk[one][1] + [step])
    return found
