"""The document's terms, reckoned in other ways than the package does, with fractions of Python's own library."""

import random
from fractions import Fraction

from anytempo.amounts import Amount
from anytempo.errors import TooMany
from anytempo.sheets import Sheet

NAMES = ["a", "b", "c", "d", "e", "f", "g", "h", "i", "j", "k", "l"]
UNITS = ["beats", "seconds"]
WORDS = ["before", "same", "after"]


def fraction(amount):
    """The fraction of an amount."""
    return Fraction(amount.top, amount.bottom) if isinstance(amount, Amount) else Fraction(amount)


def amount_from(number):
    return Amount(Fraction(number).numerator, Fraction(number).denominator)


def plain(value):
    """A value with fractions in place of all amounts."""
    if isinstance(value, Amount):
        return fraction(value)
    if isinstance(value, (list, tuple)):
        return value.__class__([plain(item) for item in value])
    return value


def shortened(shifts):
    """A list of shifts made as short as possible, one change at a time."""
    row = [(unit, fraction(amount)) for unit, amount in shifts]
    changed = True
    while changed:
        changed = False
        for index, (unit, amount) in enumerate(row):
            if amount == 0:
                row = row[:index] + row[index + 1:]
                changed = True
                break
            if index + 1 < len(row) and row[index + 1][0] == unit:
                row = row[:index] + [(unit, amount + row[index + 1][1])] + row[index + 2:]
                changed = True
                break
    return row


def rows_of(cues):
    """The row of the start and of each cue, by name."""
    rows = {"start": []}
    for name, parent, unit, amount in cues:
        rows[name] = shortened(rows[parent] + [(unit, amount)])
    return rows


def moments_of(cues):
    """All beginnings of rows, in the order of their numbers."""
    found = [[]]
    rows = rows_of(cues)
    for cue in cues:
        row = rows[cue[0]]
        for length in range(len(row) + 1):
            if row[:length] not in found:
                found.append(row[:length])
    return found


def distance_of(unit, one, other):
    """By which amount of a unit a row is shifted to give another one, or None."""
    between = shortened([(kind, -amount) for kind, amount in reversed(one)] + other)
    if between == []:
        return Fraction(0)
    return between[0][1] if len(between) == 1 and between[0][0] == unit else None


def taken(points, beat):
    """The second to which a map of told points takes a beat."""
    points = [(fraction(one), fraction(other)) for one, other in points] or [(Fraction(0), Fraction(0))]
    beat = fraction(beat)
    if beat <= points[0][0]:
        return points[0][1] - (points[0][0] - beat)
    for (one, second), (other, next_second) in zip(points, points[1:]):
        if one <= beat <= other:
            share = (beat - one) / (other - one)
            return second + share * (next_second - second)
    return points[-1][1] + (beat - points[-1][0])


def taken_back(points, second):
    return taken([(second, beat) for beat, second in points], second)


def places_of(cues, points):
    """The beat and second of each cue, and of the start, by name."""
    found = {"start": (Fraction(0), taken(points, 0))}
    for name, parent, unit, amount in cues:
        beat, second = found[parent]
        if unit == "beats":
            beat = beat + fraction(amount)
            found[name] = (beat, taken(points, beat))
        else:
            second = second + fraction(amount)
            found[name] = (taken_back(points, second), second)
    return found


def fact_holds(cues, points, fact):
    """Whether a fact holds by a map of told points."""
    found = places_of(cues, points)
    if fact[0] == "order":
        one, other = found[fact[1]][0], found[fact[3]][0]
        return {"before": one < other, "same": one == other, "after": one > other}[fact[2]]
    at = UNITS.index(fact[1])
    amount = found[fact[3]][at] - found[fact[2]][at]
    if fact[0] == "apart":
        return amount == fraction(fact[4])
    low, high = fact[4:]
    return (low is None or amount > fraction(low)) and (high is None or amount < fraction(high))


def bound_of(cues, unit, one, other, facts):
    """The largest amount by which a fact says that one moment lies behind another, and whether it says more."""
    rows = rows_of(cues)
    moments = moments_of(cues)
    said = []
    for fact in facts:
        if fact[0] == "order" or fact[1] != unit:
            continue
        first, second = [moments.index(rows[name]) for name in fact[2:4]]
        strict = fact[0] == "between"
        low, high = (fact[4], fact[5]) if strict else (fact[4], fact[4])
        if (first, second) == (one, other) and low is not None:
            said.append((fraction(low), strict))
        if (second, first) == (one, other) and high is not None:
            said.append((-fraction(high), strict))
    return max(said) if said else None


def step_says(cues, order, unit, step, facts):
    """The amount that a step says, and whether it is strict; None if it is not right for the order."""
    kind, one, other = step
    moments = moments_of(cues)
    groups = {number: index for index, group in enumerate(order) for number in group}
    if kind == "shift":
        amount = distance_of(unit, moments[one], moments[other])
        return None if amount is None else (amount, False)
    if kind == "fact":
        return bound_of(cues, unit, one, other, facts)
    if kind == "later":
        return (Fraction(0), True) if groups[one] < groups[other] else None
    if kind == "same":
        return (Fraction(0), False) if groups[one] == groups[other] else None
    return None


def contradicts(cues, order, unit, steps, facts):
    """Whether steps are a ring in a unit, all of them right for an order."""
    said = [step_says(cues, order, unit, step, facts) for step in steps]
    if not 1 <= len(steps) <= 40 or None in said:
        return False
    ends = [step[2] for step in steps]
    if [step[1] for step in steps] != [ends[-1], *ends[:-1]]:
        return False
    amount = sum(item[0] for item in said)
    return amount > 0 or (amount == 0 and any(item[1] for item in said))


def all_orders(count):
    """Every order of so many moments."""
    if count == 0:
        return [[]]
    found = []
    for order in all_orders(count - 1):
        for index in range(len(order)):
            found.append(order[:index] + [order[index] + [count - 1]] + order[index + 1:])
        for index in range(len(order) + 1):
            found.append(order[:index] + [[count - 1]] + order[index:])
    return found


class Dealer:
    """Deals sheets, maps and facts, the same ones in each run."""

    def __init__(self, seed):
        self.dice = random.Random(seed)

    def amount(self, most=4):
        return Amount(self.dice.randint(-most, most), self.dice.choice([1, 1, 1, 2, 3]))

    def cues(self, count):
        """Cues of a sheet with at most eight moments."""
        while True:
            found = []
            for name in NAMES[:count]:
                parent = self.dice.choice(["start", *[cue[0] for cue in found]])
                found.append((name, parent, self.dice.choice(UNITS), self.amount()))
            try:
                Sheet(found)
            except TooMany:
                continue
            return found

    def points(self, count):
        """Points of a map."""
        beat, second = self.amount(9), self.amount(9)
        found = []
        for _ in range(count):
            found.append((beat, second))
            beat = beat + Amount(self.dice.randint(1, 5), self.dice.randint(1, 4))
            second = second + Amount(self.dice.randint(1, 5), self.dice.randint(1, 4))
        return found

    def fact(self, cues):
        names = ["start", *[cue[0] for cue in cues]]
        one, other = self.dice.choice(names), self.dice.choice(names)
        kind = self.dice.choice(["order", "apart", "between"])
        if kind == "order":
            return (kind, one, self.dice.choice(WORDS), other)
        unit = self.dice.choice(UNITS)
        if kind == "apart":
            return (kind, unit, one, other, self.amount())
        low = self.amount()
        high = low + Amount(self.dice.randint(0, 6), self.dice.randint(1, 3))
        return (kind, unit, one, other, self.dice.choice([low, low, None]), self.dice.choice([high, high, None]))

    def near(self, cues, count):
        """Facts that set small limits to few pairs of cues, so that some of them contradict each other."""
        names = ["start", *[cue[0] for cue in cues]]
        found = []
        while len(found) < count:
            one, other = self.dice.sample(names, 2)
            limit = Amount(self.dice.randint(-3, 3), self.dice.choice([1, 1, 2]))
            ends = self.dice.choice([(limit, None), (None, limit)])
            found.append(("between", self.dice.choice(UNITS), one, other, *ends))
        return found

    def rigid(self, cues, count):
        """Facts that tell of cues by the other unit, too, how far they lie from their parents."""
        told = [cue for cue in cues if cue[3] != Amount(0)]
        found = []
        for name, parent, unit, amount in self.dice.sample(told, min(count, len(told))):
            length = Amount(self.dice.randint(1, 4), self.dice.choice([1, 1, 2]))
            other = "beats" if unit == "seconds" else "seconds"
            found.append(("apart", other, parent, name, length if amount.top > 0 else -length))
        return found

    def order(self, count):
        return self.dice.choice(all_orders(count)) if count < 6 else self.long_order(count)

    def long_order(self, count):
        order = []
        for number in range(count):
            if order and self.dice.random() < 0.3:
                self.dice.choice(order).append(number)
            else:
                order.insert(self.dice.randint(0, len(order)), [number])
        return order


def tree_says(cues, unit, step, facts, assumed):
    """The amount that a step in a tree says, and whether it is strict; None if it is not right for what is assumed."""
    kind, one, other = step
    moments = moments_of(cues)
    if kind == "shift":
        amount = distance_of(unit, moments[one], moments[other])
        return None if amount is None else (amount, False)
    if kind == "fact":
        return bound_of(cues, unit, one, other, facts)
    if kind == "later":
        gaps = [distance_of(each, moments[one], moments[other]) for each in UNITS]
        told = (one, "before", other) in assumed or (other, "after", one) in assumed
        return (Fraction(0), True) if told or any(gap is not None and gap > 0 for gap in gaps) else None
    if kind == "same":
        told = (one, "same", other) in assumed or (other, "same", one) in assumed
        return (Fraction(0), False) if told else None
    return None


def is_number(value, low, high):
    return value.__class__ is int and low <= value <= high


def ring_contradicts(cues, row, facts, assumed):
    """Whether a row is a ring of steps that are right for what is assumed."""
    _, unit, steps = row
    count = len(moments_of(cues))
    if unit not in UNITS or steps.__class__ is not list or not 1 <= len(steps) <= 40:
        return False
    for step in steps:
        if step.__class__ is not tuple or len(step) != 3 or step[0].__class__ is not str:
            return False
        if not all(is_number(number, 0, count - 1) for number in step[1:]):
            return False
    if any(step[2] != following[1] for step, following in zip(steps, steps[1:] + steps[:1])):
        return False
    said = [tree_says(cues, unit, step, facts, assumed) for step in steps]
    if None in said:
        return False
    amount = sum(item[0] for item in said)
    return amount > 0 or (amount == 0 and any(item[1] for item in said))


def tree_contradicts(cues, facts, words, rows):
    """Whether a value is a tree by which words (one, word, other) of moments contradict facts, walked from row 0 on."""
    if rows.__class__ is not list or not rows:
        return False
    moments, names = moments_of(cues), rows_of(cues)
    told = [(moments.index(names[fact[1]]), fact[2], moments.index(names[fact[3]]))
            for fact in facts if fact[0] == "order"]
    seen = []

    def walk(index, assumed):
        row = rows[index]
        seen.append(index)
        if row.__class__ is not tuple or len(row) not in (3, 6):
            return False
        if len(row) == 3:
            return row[0] == "ring" and ring_contradicts(cues, row, facts, assumed)
        word, one, other, *below = row
        if word != "case" or not all(is_number(number, 0, len(moments) - 1) for number in (one, other)):
            return False
        if one == other or not all(is_number(number, index + 1, len(rows) - 1) for number in below):
            return False
        return all(walk(number, assumed + [(one, case, other)]) for case, number in zip(WORDS, below))

    return walk(0, words + told) and sorted(seen) == list(range(len(rows)))


def words_in(order):
    """How each moment lies with regard to each other one in an order."""
    groups = {number: index for index, group in enumerate(order) for number in group}
    return {(one, other): WORDS[1 + (groups[one] > groups[other]) - (groups[one] < groups[other])]
            for one in groups for other in groups}


def heaviest(cues, order, facts, unit):
    """For two moments how far, at least, one lies behind another by all steps that are right for an order."""
    moments = moments_of(cues)
    said = {}

    def take(one, other, amount, strict):
        said[(one, other)] = max(said.get((one, other), (amount, strict)), (amount, strict))

    for one in range(len(moments)):
        for other in range(len(moments)):
            for kind in ["shift", "fact", "later", "same"]:
                told = step_says(cues, order, unit, (kind, one, other), facts)
                if told is not None:
                    take(one, other, *told)
    for middle in range(len(moments)):
        for one, end in list(said):
            for begin, other in list(said):
                if end == begin == middle:
                    first, second = said[(one, middle)], said[(middle, other)]
                    take(one, other, first[0] + second[0], first[1] or second[1])
    return said


def span_of(said, one, other):
    """The span of the amounts from one moment to another one: one value, or all between two ends."""
    low, high = said.get((one, other)), said.get((other, one))
    return (low and low[0], high and -high[0])


def is_within(spans, value):
    """Whether a value lies in one of the spans."""
    for low, high in spans:
        single = low is not None and low == high
        if value == low if single else (low is None or low < value) and (high is None or value < high):
            return True
    return False
