"""Nets: how far apart, at least, the moments of a sheet lie by all that is told and assumed of them.

In each unit a net has, for each two moments, the weight of the heaviest way of steps from one to the other. Steps are
weighed so that a way without detours from a moment back to itself is a ring exactly if its weight is greater than 0.
"""

from anytempo.amounts import Amount
from anytempo.rings import WEIGHTS, shortest_ring, told_steps, told_words, weighed, word_steps
from anytempo.validation import UNITS, WORDS, turned


class Ground:
    """The steps of a sheet by shifts and facts alone, which stand below all cases."""

    def __init__(self, sheet, facts):
        self.size = len(sheet.moments())
        self.told = {unit: told_steps(sheet, unit, [], facts) for unit in UNITS}
        self.weights = {}
        self.bottoms = {}
        self.lowest = {}
        for unit in UNITS:
            weights, bottom = weighed(self.told[unit], self.size)
            self.weights[unit] = weights
            self.bottoms[unit] = bottom
            # A way without detours has fewer steps than there are moments, so all ways weigh more than this.
            self.lowest[unit] = -self.size * (1 + max([abs(weight) for weight in weights.values()]))

    def reach(self, unit):
        """The weights of the heaviest ways in a unit, or None if the steps have a ring."""
        # Where there is no way, the weight stays below the lowest one even if heavy ways are joined on both sides.
        never = self.lowest[unit] * 4
        found = [[0 if one == other else never for other in range(self.size)] for one in range(self.size)]
        for step, weight in self.weights[unit].items():
            _, one, other = step
            if found[other][one] + weight > 0:
                return None
            found = raised(found, one, other, weight)
        return found


class Net:
    """The heaviest ways by the steps below and by words that are assumed of moments; a net never changes."""

    def __init__(self, ground, reaches, words):
        self._ground = ground
        self._reaches = reaches
        self._words = words

    def is_told(self, one, other):
        """Whether a word is assumed of just these two moments."""
        return (one, other) in self._words

    def related(self, one, word, other):
        """The net in which a word is assumed as well, which does not close a ring."""
        reaches = {}
        for unit in UNITS:
            reach = self._reaches[unit]
            for kind, low, high in word_steps(one, word, other):
                reach = raised(reach, low, high, WEIGHTS[kind])
            reaches[unit] = reach
        words = {pair: self._words[pair] for pair in self._words}
        words[(one, other)] = word
        words[(other, one)] = turned(word)
        return Net(self._ground, reaches, words)

    def allows(self, one, word, other):
        """Whether a word may be assumed without closing a ring."""
        return self._closing(one, word, other) is None

    def ring(self, one, word, other):
        """A row of a tree with a ring that a word closes."""
        unit, step = self._closing(one, word, other)
        return ("ring", unit, [step] + self._way(unit, step[2], step[1]))

    def _closing(self, one, word, other):
        """The unit and the step of a word that closes a ring, or None if no step does."""
        for unit in UNITS:
            reach = self._reaches[unit]
            for step in word_steps(one, word, other):
                kind, low, high = step
                if reach[high][low] + WEIGHTS[kind] > 0:
                    return unit, step
        return None

    def _way(self, unit, one, other):
        """The steps of a heaviest way from one moment to another one, as few as possible."""
        reach = self._reaches[unit]
        # Steps that lose no weight may lead round in a circle, so the moments are reached in the order of their steps.
        ways = {one: []}
        nearest = [one]
        while other not in ways:
            at = nearest.pop(0)
            for following in range(self._ground.size):
                step = self._step(unit, at, following, reach[at][other] - reach[following][other])
                if following not in ways and step is not None:
                    ways[following] = ways[at] + [step]
                    nearest.append(following)
        return ways[other]

    def _step(self, unit, one, other, weight):
        """A step from one moment to another one that has just this weight, or None."""
        weights = self._ground.weights[unit]
        for step in [("shift", one, other), ("fact", one, other)]:
            if step in weights and weights[step] == weight:
                return step
        if (one, other) in self._words:
            for step in word_steps(one, self._words[(one, other)], other):
                if step[1] == one and WEIGHTS[step[0]] == weight:
                    return step
        return None

    def open_pair(self):
        """Two moments of which the two units do not tell the same word, or else of which they tell none, or None."""
        free = None
        for one in range(self._ground.size):
            for other in range(one + 1, self._ground.size):
                word = _word_by(self._reaches["beats"], one, other)
                if word != _word_by(self._reaches["seconds"], one, other):
                    return (one, other)
                if word is None and free is None:
                    free = (one, other)
        return free

    def below(self, pair):
        """The nets in which the words that are allowed for two moments are assumed."""
        one, other = pair
        return [self.related(one, word, other) for word in WORDS if self.allows(one, word, other)]

    def span(self, unit, one, other):
        """The ends of the amounts from one moment to another one, as tops above the bottom, or None for no end."""
        reach = self._reaches[unit]
        lowest = self._ground.lowest[unit]
        # The ones that strict steps weigh more, which are fewer than this, do not belong to the amounts.
        whole = self._ground.size + 1
        low = reach[one][other] // whole if reach[one][other] > lowest else None
        high = -(reach[other][one] // whole) if reach[other][one] > lowest else None
        return (low, high)

    def amount(self, unit, end):
        """The amount of an end of a span, or None for no end."""
        return None if end is None else Amount(end, self._ground.bottoms[unit])

    def ranks(self, number):
        """Numbers of moments that can come before a moment; just the right one where no pair is open."""
        reach = self._reaches["beats"]
        others = [other for other in range(self._ground.size) if other != number]
        low = len([other for other in others if reach[other][number] > 0])
        high = len([other for other in others if reach[number][other] < 0])
        return list(range(low, high + 1))

    def ends(self, word, numbers):
        """Those of the moments of which no other one can surely be told that it lies on one side of them."""
        reach = self._reaches["beats"]
        return [number for number in numbers if not any([_word_by(reach, other, number) == word for other in numbers])]

    def words(self):
        """Tuples (one, word, other) of moments that can be right; just the right ones where no pair is open."""
        reach = self._reaches["beats"]
        found = []
        for one in range(self._ground.size):
            for other in range(self._ground.size):
                told = _word_by(reach, one, other)
                found.extend([(one, word, other) for word in WORDS if told is None or word == told])
        return found

    def order(self):
        """The groups of the moments, where no pair is open."""
        reach = self._reaches["beats"]
        numbers = list(range(self._ground.size))
        earlier = [len([one for one in numbers if reach[one][other] > 0]) for other in numbers]
        return [[number for number in numbers if earlier[number] == rank] for rank in sorted(set(earlier))]


def raised(reach, one, other, weight):
    """The weights of the heaviest ways with one more step; rows that stay are not made anew."""
    if reach[one][other] >= weight:
        return reach
    behind = reach[other]
    found = []
    for row in reach:
        begin = row[one] + weight
        # Where the step makes no heavier way to its own end, it makes none to other moments.
        if begin > row[other]:
            found.append([max(old, begin + rest) for old, rest in zip(row, behind)])
        else:
            found.append(row)
    return found


def _word_by(reach, one, other):
    """The word that the ways in one unit tell of two different moments, or None."""
    if reach[one][other] > 0:
        return "before"
    if reach[other][one] > 0:
        return "after"
    # Steps that are not strict are told in both directions, so a way of weight 0 has one back.
    return "same" if reach[one][other] == 0 else None


def begun(sheet, facts):
    """(net, None) with the net of a sheet and facts, or (None, row) with a ring that the facts close."""
    ground = Ground(sheet, facts)
    reaches = {}
    for unit in UNITS:
        reach = ground.reach(unit)
        if reach is None:
            return None, ("ring", unit, shortest_ring(ground.size, ground.told[unit]))
        reaches[unit] = reach
    return assumed(Net(ground, reaches, {}), told_words(sheet, facts))


def first_nets(sheet, facts):
    """A list with the net above all possible orders, or an empty one if the facts close a ring."""
    net, _ = begun(sheet, facts)
    return [] if net is None else [net]


def assumed(net, words):
    """(net, None) with the net in which words are assumed as well, or (None, row) with a ring that they close."""
    for one, word, other in words:
        if not net.allows(one, word, other):
            return None, net.ring(one, word, other)
        net = net.related(one, word, other)
    return net, None
