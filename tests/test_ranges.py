"""Points 81 to 83, and points 5, 7, 8, 9 and 10 as far as they speak of ranges."""

import copy
import unittest
from fractions import Fraction

from anytempo.amounts import Amount, amount_text
from anytempo.errors import InvalidAmount, InvalidFact, InvalidPart, InvalidSheet, InvalidUnit, UnknownCue
from anytempo.facts import broken
from anytempo.maps import TempoMap, places
from anytempo.orders import order_map
from anytempo.ranges import hull, map_with, ranges, united
from anytempo.sheets import Sheet
from hard import HARD, MANY
from reckoned import (
    Dealer, UNITS, all_orders, amount_from, fact_holds, fraction, heaviest, is_within, moments_of, plain, span_of,
)
from values import Checks, all_values, lists, sixty, tuples, values_without

CUES = [("a", "start", "beats", 2), ("b", "start", "seconds", 3), ("c", "b", "beats", -2)]


def probes(spans):
    """Values at all ends of spans, between them and beyond them."""
    ends = sorted({end for span in spans for end in span if end is not None})
    if not ends:
        return [Fraction(0), Fraction(7, 2), Fraction(-100)]
    return ends + [(low + high) / 2 for low, high in zip(ends, ends[1:])] + [ends[0] - 1, ends[-1] + 1]


def is_single(span):
    return span[0] is not None and span[0] == span[1]


def texts(told):
    return [tuple(end and amount_text(end) for end in span) for span in told]


class Told(Checks):
    """Checks of what is told; mixed into test cases."""

    def told(self, cues, unit, one, other, facts=()):
        """What ranges tells, as fractions, with its form checked."""
        told = ranges(Sheet(cues), unit, one, other, facts=facts)
        self.assertEqual(told.__class__, list)
        for span in told:
            self.assertEqual([span.__class__, len(span)], [tuple, 2])
            self.assertTrue(all(end is None or end.__class__ is Amount for end in span))
        found = plain(told)
        self.check_form(found)
        self.check_hull(found, hull(Sheet(cues), unit, one, other, facts=facts))
        return found

    def check_form(self, found):
        """Spans ascend, are not empty, and are the largest ones."""
        for low, high in found:
            self.assertTrue(low is None or high is None or low <= high)
        for (low, high), (following, end) in zip(found, found[1:]):
            self.assertTrue(high is not None and following is not None and high <= following)
            self.assertFalse(low is not None and low == high == following == end)
        for first, second, third in zip(found, found[1:], found[2:]):
            if not is_single(first) and is_single(second) and not is_single(third):
                self.assertFalse(first[1] == second[0] == third[0], found)

    def check_hull(self, found, told):
        if not found:
            self.assertIs(told, None)
            return
        low, low_taken, high, high_taken = told
        self.assertEqual(told.__class__, tuple)
        self.assertEqual([plain(low), plain(high)], [found[0][0], found[-1][1]])
        self.assertIs(low_taken, low is not None and is_within(found, plain(low)))
        self.assertIs(high_taken, high is not None and is_within(found, plain(high)))

    def check_maps(self, cues, unit, one, other, facts, found, values):
        """map_with tells maps for just the values within the ranges."""
        sheet = Sheet(cues)
        for value in values:
            tempo = map_with(sheet, unit, one, other, amount_from(value), facts=facts)
            self.assertEqual(tempo is not None, is_within(found, value), (found, value))
            if tempo is not None:
                self.assertEqual(tempo.__class__, TempoMap)
                self.assertEqual(broken(sheet, facts, tempo), [])
                self.assertTrue(fact_holds(cues, tempo.points(), ("apart", unit, one, other, amount_from(value))))
                self.assertTrue(all(fact_holds(cues, tempo.points(), fact) for fact in facts))


class Answers(Told, unittest.TestCase):
    """Points 10 and 81 to 83."""

    def test_examples_of_the_document(self):
        sheet = Sheet(CUES)
        self.assertEqual(texts(ranges(sheet, "seconds", "a", "b")), [(None, "3")])
        facts = [("order", "c", "same", "start")]
        self.assertEqual([len(ranges(sheet, "beats", "a", "b", facts=facts)), len(ranges(sheet, "beats", "b", "c"))],
                         [1, 1])

    def test_small_sheets(self):
        dealer = Dealer(81)
        lengths = []
        for number in range(90):
            cues = dealer.cues(1 + number % 6)
            if len(moments_of(cues)) > (5 if number % 12 == 0 else 4):
                continue
            sheet = Sheet(cues)
            facts = dealer.near(cues, number // 2 % 2) + dealer.rigid(cues, number // 4 % 3)
            told = [order for order in all_orders(len(moments_of(cues)))
                    if order_map(sheet, order, facts=facts)[0] == "map"]
            names = ["start", *sheet.names()]
            for unit in UNITS:
                said = [heaviest(cues, order, facts, unit) for order in told]
                for one in names:
                    other = dealer.dice.choice(names)
                    spans = [span_of(each, sheet.moment(one), sheet.moment(other)) for each in said]
                    found = self.told(cues, unit, one, other, facts)
                    lengths.append(len(found))
                    values = probes(spans + found)
                    for value in values:
                        self.assertEqual(is_within(found, value), is_within(spans, value), (found, spans, value))
                    sample = dealer.dice.sample(values, min(3, len(values)))
                    self.check_maps(cues, unit, one, other, facts, found, sample)
        self.assertEqual(set(lengths), {0, 1})

    def test_holes(self):
        # Two pairs of cues that are told by both units, so that neither pair fits into the other one.
        for cues, facts, unit, one, other, expected in [
                ([("a", "start", "beats", 3), ("b", "start", "seconds", 1), ("c", "a", "seconds", -4),
                  ("d", "c", "beats", -1)],
                 [("apart", "seconds", "c", "d", -2), ("apart", "beats", "start", "b", 1)],
                 "seconds", "start", "a", [(1, 5), (6, None)]),
                ([("a", "start", "beats", 3), ("b", "start", "seconds", 1), ("c", "a", "seconds", -4),
                  ("d", "c", "beats", -1)],
                 [("apart", "seconds", "c", "d", -2), ("apart", "beats", "start", "b", 1)],
                 "beats", "start", "c", [(None, 1), (1, 3)]),
                ([("a", "start", "seconds", -3), ("b", "start", "seconds", -4), ("c", "b", "beats", 3),
                  ("d", "c", "beats", 3)],
                 [("apart", "seconds", "c", "d", 2), ("apart", "beats", "start", "a", -3)],
                 "seconds", "start", "c", [(-4, -3), (-2, 0)]),
                ([("a", "start", "beats", -3), ("b", "start", "seconds", -3), ("c", "a", "beats", -4),
                  ("d", "c", "seconds", -4), ("e", "b", "seconds", -4)],
                 [("apart", "seconds", "a", "c", -2), ("apart", "beats", "b", "e", -2)],
                 "beats", "start", "b", [(None, -5), (-3, 0)])]:
            self.assertEqual(self.told(cues, unit, one, other, facts), expected)
            self.check_maps(cues, unit, one, other, facts, expected, probes(expected))
            turned = [tuple(None if end is None else -end for end in span[::-1]) for span in expected[::-1]]
            self.assertEqual(self.told(cues, unit, other, one, facts), turned)

    def test_facts_that_leave_one_value(self):
        cues = [("a", "start", "beats", 2), ("b", "start", "seconds", 3), ("c", "b", "beats", -2)]
        facts = [("between", "beats", "start", "b", 0, 4), ("order", "a", "same", "b")]
        self.assertEqual(self.told(cues, "beats", "start", "b", facts), [(2, 2)])
        # If c comes before the start, then by beats d comes before a, and so by seconds c comes after the start.
        cues = [("a", "start", "beats", 1), ("d", "start", "seconds", 3), ("c", "d", "beats", -1)]
        facts = [("apart", "seconds", "c", "a", 3)]
        for unit in UNITS:
            self.assertEqual(self.told(cues, unit, "start", "c", facts), [(0, 0)])
            self.check_maps(cues, unit, "c", "start", facts, [(0, 0)], [Fraction(0), Fraction(1), Fraction(-1, 9)])

    def test_one_value(self):
        cues = [*CUES, ("d", "a", "beats", 0), ("e", "a", "beats", Amount(-7, 2))]
        for unit in UNITS:
            for one, other in [("a", "a"), ("start", "start"), ("a", "d"), ("d", "a")]:
                self.assertEqual(self.told(cues, unit, one, other), [(0, 0)])
                self.check_maps(cues, unit, one, other, [], [(0, 0)], [Fraction(0), Fraction(1, 9), Fraction(-1)])
        self.assertEqual(self.told(cues, "beats", "a", "e"), [(Fraction(-7, 2), Fraction(-7, 2))])
        self.assertEqual(self.told(cues, "beats", "e", "start"), [(Fraction(3, 2), Fraction(3, 2))])
        self.assertEqual(self.told(cues, "seconds", "a", "e"), [(None, 0)])
        self.assertEqual(self.told(cues, "seconds", "e", "start"), [(0, None)])

    def test_facts_that_narrow(self):
        for facts, expected in [
                ([("between", "seconds", "start", "a", 1, 5)], [(1, 5)]),
                ([("between", "seconds", "a", "start", -5, -1)], [(1, 5)]),
                ([("between", "seconds", "start", "a", -7, Amount(1, 3))], [(0, Fraction(1, 3))]),
                ([("apart", "seconds", "start", "a", 4)], [(4, 4)]),
                ([("order", "b", "before", "a")], [(3, None)]), ([("order", "b", "after", "a")], [(0, 3)]),
                ([("order", "b", "same", "a")], [(3, 3)]), ([("apart", "seconds", "start", "a", -4)], []),
                ([("between", "seconds", "start", "a", None, None)], [(0, None)]),
                ([("order", "a", "same", "start")], [])]:
            self.assertEqual(self.told(CUES, "seconds", "start", "a", facts), expected)
            self.assertEqual(self.told(CUES, "seconds", "a", "start", facts),
                             [tuple(None if end is None else -end for end in span[::-1]) for span in expected])

    def test_contradicting_facts(self):
        for cues, facts in [*HARD, (CUES, [("apart", "beats", "b", "b", 1)])]:
            for unit in UNITS:
                self.assertEqual(self.told(cues, unit, "a", "b", facts), [])
                self.assertEqual(self.told(cues, unit, "a", "a", facts), [])
                self.assertIs(map_with(Sheet(cues), unit, "a", "a", 0, facts=facts), None)
                self.assertIs(hull(Sheet(cues), unit, "a", "a", facts=facts), None)

    def test_sheets_without_cues(self):
        self.assertEqual(self.told([], "beats", "start", "start"), [(0, 0)])
        zero, low, top, high = hull(Sheet([]), "seconds", "start", "start")
        self.assertEqual([plain(zero), low, plain(top), high], [0, True, 0, True])
        self.assertEqual(map_with(Sheet([]), "seconds", "start", "start", 0).__class__, TempoMap)
        self.assertIs(map_with(Sheet([]), "seconds", "start", "start", Amount(1, 2)), None)
        self.assertEqual(self.told([], "beats", "start", "start", [("apart", "beats", "start", "start", 2)]), [])

    def test_exchanged_turned_and_stretched(self):
        dealer = Dealer(82)
        other_unit = {"beats": "seconds", "seconds": "beats"}
        for number in range(25):
            cues = dealer.cues(2 + number % 7)
            across = [(name, parent, other_unit[unit], amount) for name, parent, unit, amount in cues]
            back = [(name, parent, unit, -amount) for name, parent, unit, amount in cues]
            longer = [(*cue[:3], cue[3] * Amount(5, 3) if cue[2] == "beats" else cue[3]) for cue in cues]
            one, other = cues[0][0], cues[-1][0]
            for unit in UNITS:
                found = self.told(cues, unit, one, other)
                by = Fraction(5, 3) if unit == "beats" else 1
                self.assertEqual(self.told(across, other_unit[unit], one, other), found)
                turned = [tuple(None if end is None else -end for end in span[::-1]) for span in found]
                # Turned about, a single value stands behind the interval at whose beginning it stood.
                self.assertEqual(sorted(self.told(back, unit, one, other), key=repr), sorted(turned, key=repr))
                self.assertEqual(sorted(self.told(cues, unit, other, one), key=repr), sorted(turned, key=repr))
                stretched = [tuple(None if end is None else by * end for end in span) for span in found]
                self.assertEqual(self.told(longer, unit, one, other), stretched)


class Limits(Told, unittest.TestCase):
    """Points 5 and 10."""

    def test_values_of_maps_lie_within(self):
        dealer = Dealer(83)
        for number in range(25):
            cues, points = dealer.cues(12), dealer.points(number % 10)
            facts = [dealer.fact(cues) for _ in range(40)]
            facts = [fact for fact in facts if fact_holds(cues, points, fact)][:6]
            sheet, tempo = Sheet(cues), TempoMap(points)
            names = ["start", *sheet.names()]
            for _ in range(4):
                unit, one, other = dealer.dice.choice(UNITS), dealer.dice.choice(names), dealer.dice.choice(names)
                at = UNITS.index(unit)
                found = self.told(cues, unit, one, other, facts)
                spots = plain(places(sheet, tempo))
                value = spots[sheet.moment(other)][at] - spots[sheet.moment(one)][at]
                self.assertTrue(is_within(found, value), (found, value))
                self.check_maps(cues, unit, one, other, facts, found, [value, *probes(found)[:6]])

    def test_many_orders(self):
        sheet = Sheet(MANY)
        for unit in UNITS:
            for one in ["start", *sheet.names()]:
                for other in ["start", *sheet.names()]:
                    self.told(MANY, unit, one, other)
        found = self.told(MANY, "beats", "e", "f")
        self.check_maps(MANY, "beats", "e", "f", [], found, probes(found))

    def test_long_amounts(self):
        near = Amount(1, 10 ** 60 - 1)
        cues = [("a", "start", "beats", sixty(1)), ("b", "a", "seconds", -sixty(2)), ("c", "b", "beats", sixty(3)),
                ("d", "c", "seconds", sixty(4)), ("e", "d", "beats", -sixty(5)), ("f", "e", "seconds", sixty(6)),
                ("g", "f", "beats", sixty(7))]
        facts = [("between", "beats", "b", "d", None, sixty(3) + near),
                 ("between", "seconds", "start", "f", sixty(9), None)]
        for one, other in [("start", "g"), ("c", "d"), ("b", "f"), ("d", "e")]:
            for unit in UNITS:
                found = self.told(cues, unit, one, other, facts)
                self.assertGreater(len(found), 0)
                self.check_maps(cues, unit, one, other, facts, found, probes(found)[:6])
        self.assertEqual(self.told(cues, "beats", "c", "d", facts), [(0, fraction(near))])


class United(unittest.TestCase):
    """Point 81: the largest intervals, and the single values that lie in none of them."""

    def test_spans(self):
        for spans, expected in [
                ([], []), ([(1, 3), (3, 3)], [(1, 3), (3, 3)]), ([(3, 3), (3, 5)], [(3, 3), (3, 5)]),
                ([(1, 3), (3, 5)], [(1, 3), (3, 5)]), ([(3, 5), (3, 3), (1, 3)], [(1, 5)]),
                ([(2, 4), (1, 3), (3, 3)], [(1, 4)]), ([(None, 2), (2, 2), (2, None)], [(None, None)]),
                ([(1, 1), (1, 1)], [(1, 1)]), ([(1, 1), (2, 2), (1, 2)], [(1, 1), (1, 2), (2, 2)]),
                ([(1, 1), (3, 3), (3, 4)], [(1, 1), (3, 3), (3, 4)]), ([(1, 9), (2, 3), (4, 4)], [(1, 9)]),
                ([(None, None), (0, 0)], [(None, None)]), ([(None, 1), (None, 3)], [(None, 3)])]:
            for each in [spans, spans[::-1]]:
                self.assertEqual(united(each), expected)

    def test_drawn_spans(self):
        dice = Dealer(84).dice
        for _ in range(2000):
            spans = []
            for _ in range(dice.randint(0, 6)):
                low = dice.randint(-4, 4)
                high = low + dice.randint(0, 4)
                spans.append((low if low == high or dice.random() < 0.9 else None,
                              high if low == high or dice.random() < 0.9 else None))
            found = united(spans)
            values = [Fraction(number, 2) for number in range(-20, 30)]
            for value in values:
                self.assertEqual(is_within(found, value), is_within(spans, value), spans)
                # No value lies in two of them, and one with all values around it lies in an interval.
                self.assertLess(sum(is_within([span], value) for span in found), 2, found)
                around = [value - Fraction(1, 3), value, value + Fraction(1, 3)]
                if all(is_within(spans, each) for each in around):
                    self.assertTrue(any(not is_single(span) and is_within([span], value) for span in found), found)
            order = [(-99 if low is None else low, not is_single((low, high))) for low, high in found]
            self.assertEqual(order, sorted(set(order)))


class Passed(Checks, unittest.TestCase):
    """Points 7, 8, 9 and 81 to 83."""

    def test_first_wrong_argument(self):
        sheet, unit, one, other, amount = ["sheet"], "Beats", ["one"], ("other",), "1"
        facts, item, unknown = {"no": "list"}, ["no", "fact"], ["no name"]
        start = [(sheet, InvalidSheet, "value", sheet), (unit, InvalidUnit, "value", unit),
                 (one, UnknownCue, "label", one),
                 (other, UnknownCue, "label", other)]
        for last in [(facts, InvalidPart, "value", facts), ([item], InvalidFact, "value", item),
                     ([("order", unknown, "same", "x"), item], UnknownCue, "label", unknown)]:
            for call in [ranges, hull]:
                self.check_turns(lambda a, b, c, d, e: call(a, b, c, d, facts=e), [Sheet(CUES), "beats", "a", "b", []],
                                 [*start, last])
            self.check_turns(lambda a, b, c, d, e, f: map_with(a, b, c, d, e, facts=f),
                             [Sheet(CUES), "beats", "a", "b", 1, []],
                             [*start, (amount, InvalidAmount, "value", amount), last])

    def test_wrong_values(self):
        sheet = Sheet(CUES)
        calls = [ranges, hull, lambda *given, **more: map_with(*given, 1, **more)]
        for call in calls:
            for value in values_without(Sheet):
                self.check_raises(InvalidSheet, "value", value, call, value, "beats", "a", "b")
            for value in all_values():
                self.check_raises(InvalidUnit, "value", value, call, sheet, value, "a", "b")
                if value.__class__ is not str or value not in sheet:
                    self.check_raises(UnknownCue, "label", value, call, sheet, "beats", value, "b")
                    self.check_raises(UnknownCue, "label", value, call, sheet, "beats", "start", value)
                if not isinstance(value, (list, tuple)):
                    self.check_raises(InvalidPart, "value", value, call, sheet, "beats", "a", "b", facts=value)
        for value in values_without(int, Amount) + [True, False]:
            self.check_raises(InvalidAmount, "value", value, map_with, sheet, "beats", "a", "b", value)
            self.check_raises(InvalidAmount, "value", value, map_with, sheet, "beats", "a", "b", value, facts=None)

    def test_lists_tuples_integers_and_names(self):
        facts = [("order", "a", "before", "b"), ("between", "seconds", "start", "a", 1, None)]
        sheet = Sheet(lists(CUES))
        expected = ranges(Sheet(CUES), "seconds", "start", "a", facts=facts)
        self.assertEqual(texts(expected), [("1", "3")])
        longer = [facts[0], (*facts[1][:4], Amount(1), None)]
        for told in [facts, lists(facts), tuples(facts), tuple(lists(facts)), longer]:
            self.assertEqual(ranges(other="a", one="start", unit="seconds", sheet=sheet, facts=told), expected)
            low, low_taken, high, high_taken = hull(other="a", one="start", unit="seconds", sheet=sheet, facts=told)
            self.assertEqual([plain(low), low_taken, plain(high), high_taken], [1, False, 3, False])
            for amount, fits in [(2, True), (Amount(2), True), (Amount(5, 2), True), (1, False), (3, False)]:
                tempo = map_with(amount=amount, other="a", one="start", unit="seconds", sheet=sheet, facts=told)
                self.assertEqual(tempo is not None, fits)
        for call in [lambda: ranges(sheet, "beats", "a", "b", []), lambda: hull(sheet, "beats", "a", "b", []),
                     lambda: map_with(sheet, "beats", "a", "b", 1, [])]:
            with self.assertRaises(TypeError):
                call()

    def test_results_are_arguments(self):
        sheet = Sheet(CUES)
        for low, high in ranges(sheet, "seconds", "a", "b"):
            self.assertIs(map_with(sheet, "seconds", "a", "b", high), None)
            self.assertIsNot(map_with(sheet, "seconds", "a", "b", high - Amount(1, 10 ** 60)), None)

    def test_arguments_stay_and_results_are_new(self):
        sheet, facts = Sheet(CUES), [["between", "beats", "start", "b", 1, 4]]
        kept = copy.deepcopy(facts)
        told = ranges(sheet, "beats", "start", "b", facts=facts)
        told.append(1)
        self.assertEqual(texts(ranges(sheet, "beats", "start", "b", facts=facts)), [("1", "4")])
        map_with(sheet, "beats", "start", "b", 2, facts=facts)
        self.assertEqual(facts, kept)


if __name__ == "__main__":
    unittest.main()
