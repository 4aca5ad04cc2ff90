"""The document's terms, reckoned in other ways than the package does, with fractions of Python's own library."""

import random
from fractions import Fraction

from anytempo.amounts import Amount
from anytempo.errors import TooMany
from anytempo.sheets import Sheet

NAMES = ["a", "b", "c", "d", "e", "f", "g", "h", "i", "j", "k", "l"]
UNITS = ["beats", "seconds"]
WORDS = ["before", "same", "after"]


def fraction(amount):
    """The fraction of an amount."""
    return Fraction(amount.top, amount.bottom) if isinstance(amount, Amount) else Fraction(amount)


def amount_from(number):
    return Amount(Fraction(number).numerator, Fraction(number).denominator)


def plain(value):
    """A value with fractions in place of all amounts."""
    if isinstance(value, Amount):
        return fraction(value)
    if isinstance(value, (list, tuple)):
        return value.__class__([plain(item) for item in value])
    return value


def shortened(shifts):
    """A list of shifts made as short as possible, one change at a time."""
    row = [(unit, fraction(amount)) for unit, amount in shifts]
    changed = True
    while changed:
        changed = False
        for index, (unit, amount) in enumerate(row):
            if amount == 0:
                row = row[:index] + row[index + 1:]
                changed = True
                break
            if index + 1 < len(row) and row[index + 1][0] == unit:
                row = row[:index] + [(unit, amount + row[index + 1][1])] + row[index + 2:]
                changed = True
                break
    return row


def rows_of(cues):
    """The row of the start and of each cue, by name."""
    rows = {"start": []}
    for name, parent, unit, amount in cues:
        rows[name] = shortened(rows[parent] + [(unit, amount)])
    return rows


def moments_of(cues):
    """All beginnings of rows, in the order of their numbers."""
    found = [[]]
    rows = rows_of(cues)
    for cue in cues:
        row = rows[cue[0]]
        for length in range(len(row) + 1):
            if row[:length] not in found:
                found.append(row[:length])
    return found


def distance_of(unit, one, other):
    """By which amount of a unit a row is shifted to give another one, or None."""
    between = shortened([(kind, -amount) for kind, amount in reversed(one)] + other)
    if between == []:
        return Fraction(0)
    return between[0][1] if len(between) == 1 and between[0][0] == unit else None


def taken(points, beat):
    """The second to which a map of told points takes a beat."""
    points = [(fraction(one), fraction(other)) for one, other in points] or [(Fraction(0), Fraction(0))]
    beat = fraction(beat)
    if beat <= points[0][0]:
        return points[0][1] - (points[0][0] - beat)
    for (one, second), (other, next_second) in zip(points, points[1:]):
        if one <= beat <= other:
            share = (beat - one) / (other - one)
            return second + share * (next_second - second)
    return points[-1][1] + (beat - points[-1][0])


def taken_back(points, second):
    return taken([(second, beat) for beat, second in points], second)


def places_of(cues, points):
    """The beat and second of each cue, and of the start, by name."""
    found = {"start": (Fraction(0), taken(points, 0))}
    for name, parent, unit, amount in cues:
        beat, second = found[parent]
        if unit == "beats":
            beat = beat + fraction(amount)
            found[name] = (beat, taken(points, beat))
        else:
            second = second + fraction(amount)
            found[name] = (taken_back(points, second), second)
    return found


def fact_holds(cues, points, fact):
    """Whether a fact holds by a map of told points."""
    found = places_of(cues, points)
    if fact[0] == "order":
        one, other = found[fact[1]][0], found[fact[3]][0]
        return {"before": one < other, "same": one == other, "after": one > other}[fact[2]]
    at = UNITS.index(fact[1])
    amount = found[fact[3]][at] - found[fact[2]][at]
    if fact[0] == "apart":
        return amount == fraction(fact[4])
    low, high = fact[4:]
    return (low is None or amount > fraction(low)) and (high is None or amount < fraction(high))


def bound_of(cues, unit, one, other, facts):
    """The largest amount by which a fact says that one moment lies behind another, and whether it says more."""
    rows = rows_of(cues)
    moments = moments_of(cues)
    said = []
    for fact in facts:
        if fact[0] == "order" or fact[1] != unit:
            continue
        first, second = [moments.index(rows[name]) for name in fact[2:4]]
        strict = fact[0] == "between"
        low, high = (fact[4], fact[5]) if strict else (fact[4], fact[4])
        if (first, second) == (one, other) and low is not None:
            said.append((fraction(low), strict))
        if (second, first) == (one, other) and high is not None:
            said.append((-fraction(high), strict))
    return max(said) if said else None


def step_says(cues, order, unit, step, facts):
    """The amount that a step says, and whether it is strict; None if it is not right for the order."""
    kind, one, other = step
    moments = moments_of(cues)
    groups = {number: index for index, group in enumerate(order) for number in group}
    if kind == "shift":
        amount = distance_of(unit, moments[one], moments[other])
        return None if amount is None else (amount, False)
    if kind == "fact":
        return bound_of(cues, unit, one, other, facts)
    if kind == "later":
        return (Fraction(0), True) if groups[one] < groups[other] else None
    if kind == "same":
        return (Fraction(0), False) if groups[one] == groups[other] else None
    return None


def contradicts(cues, order, unit, steps, facts):
    """Whether steps are a ring in a unit, all of them right for an order."""
    said = [step_says(cues, order, unit, step, facts) for step in steps]
    if not 1 <= len(steps) <= 40 or None in said:
        return False
    ends = [step[2] for step in steps]
    if [step[1] for step in steps] != [ends[-1], *ends[:-1]]:
        return False
    amount = sum(item[0] for item in said)
    return amount > 0 or (amount == 0 and any(item[1] for item in said))


def all_orders(count):
    """Every order of so many moments."""
    if count == 0:
        return [[]]
    found = []
    for order in all_orders(count - 1):
        for index in range(len(order)):
            found.append(order[:index] + [order[index] + [count - 1]] + order[index + 1:])
        for index in range(len(order) + 1):
            found.append(order[:index] + [[count - 1]] + order[index:])
    return found


class Dealer:
    """Deals sheets, maps and facts, the same ones in each run."""

    def __init__(self, seed):
        self.dice = random.Random(seed)

    def amount(self, most=4):
        return Amount(self.dice.randint(-most, most), self.dice.choice([1, 1, 1, 2, 3]))

    def cues(self, count):
        """Cues of a sheet with at most eight moments."""
        while True:
            found = []
            for name in NAMES[:count]:
                parent = self.dice.choice(["start", *[cue[0] for cue in found]])
                found.append((name, parent, self.dice.choice(UNITS), self.amount()))
            try:
                Sheet(found)
            except TooMany:
                continue
            return found

    def points(self, count):
        """Points of a map."""
        beat, second = self.amount(9), self.amount(9)
        found = []
        for _ in range(count):
            found.append((beat, second))
            beat = beat + Amount(self.dice.randint(1, 5), self.dice.randint(1, 4))
            second = second + Amount(self.dice.randint(1, 5), self.dice.randint(1, 4))
        return found

    def fact(self, cues):
        names = ["start", *[cue[0] for cue in cues]]
        one, other = self.dice.choice(names), self.dice.choice(names)
        kind = self.dice.choice(["order", "apart", "between"])
        if kind == "order":
            return (kind, one, self.dice.choice(WORDS), other)
        unit = self.dice.choice(UNITS)
        if kind == "apart":
            return (kind, unit, one, other, self.amount())
        low = self.amount()
        high = low + Amount(self.dice.randint(0, 6), self.dice.randint(1, 3))
        return (kind, unit, one, other, self.dice.choice([low, low, None]), self.dice.choice([high, high, None]))

    def order(self, count):
        return self.dice.choice(all_orders(count)) if count < 6 else self.long_order(count)

    def long_order(self, count):
        order = []
        for number in range(count):
            if order and self.dice.random() < 0.3:
                self.dice.choice(order).append(number)
            else:
                order.insert(self.dice.randint(0, len(order)), [number])
        return order
