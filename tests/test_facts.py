"""Points 41 to 43, and points 4, 5, 7, 8 and 9 as far as they speak of facts."""

import copy
import unittest

from anytempo.amounts import Amount
from anytempo.errors import (
    InvalidFact, InvalidInteger, InvalidMap, InvalidPart, InvalidSheet, InvalidUnit, UnknownCue,
)
from anytempo.facts import bound, broken, holds, is_fact
from anytempo.maps import TempoMap
from anytempo.orders import order_map, shows_ring
from anytempo.sheets import Sheet
from reckoned import Dealer, UNITS, WORDS, bound_of, fact_holds, moments_of, plain
from values import Checks, all_values, amounts, any_values, integers, lists, sixty, strings, tuples, values_without

CUES = [("a", "start", "beats", 2), ("b", "start", "seconds", 3)]
FACTS = [("order", "a", "after", "b"), ("between", "beats", "b", "a", 1, None)]


def good_facts():
    """Facts of every form, about cues that CUES has."""
    found = [("order", "a", word, "start") for word in WORDS]
    for unit in UNITS:
        for amount in integers() + amounts():
            found = found + [("apart", unit, "a", "b", amount), ("between", unit, "a", "b", amount, None),
                             ("between", unit, "b", "a", None, amount), ("between", unit, "b", "b", amount, amount)]
        found = found + [("between", unit, "start", "a", None, None), ("between", unit, "a", "b", 3, -3)]
    return found


def wrong_facts():
    """Values that have no form of a fact."""
    found = values_without(list, tuple)
    for fact in [*FACTS, ("apart", "beats", "a", "b", 1)]:
        found = found + [fact[:-1], fact[1:], (*fact, 1), (*fact, None), fact[:1]]
        found = found + [("Order", *fact[1:]), ("", *fact[1:])]
        found = found + [(value, *fact[1:]) for value in values_without(str)]
    for value in any_values() + ["", "befor", "beats", 1]:
        found.append(("order", "a", value, "b"))
    for value in any_values() + ["", "beat", "before", 1]:
        found = found + [("apart", value, "a", "b", 1), ("between", value, "a", "b", 1, 2)]
    for value in any_values() + strings():
        found.append(("apart", "beats", "a", "b", value))
        if value is not None:
            found = found + [("between", "beats", "a", "b", value, 1), ("between", "seconds", "a", "b", None, value)]
    found = found + [("apart", "a", "beats", "b", 1), ("order", "a", "b", "after"), ("apart", "order", "a", "b", 1),
                     ("order", "a", "b", "same", 1), ("between", "a", "before", "b"), ("apart", "a", "before", "b")]
    return found + [[], (), [1, 2, 3, 4], (1, 2, 3, 4, 5), (None,) * 6]


class Form(unittest.TestCase):
    """Point 41: is_fact."""

    def test_facts(self):
        for fact in good_facts() + FACTS:
            self.assertIs(is_fact(fact), True, fact)
            self.assertIs(is_fact(value=fact), True)

    def test_whatever_the_names_are(self):
        for value in all_values() + ["unknown", "NO NAME"]:
            for fact in [("order", value, "same", "a"), ("order", "a", "before", value),
                         ("apart", "beats", value, "b", 1), ("apart", "seconds", "b", value, Amount(1)),
                         ("between", "beats", value, value, None, 1)]:
                self.assertIs(is_fact(fact), True)

    def test_a_list_is_not_a_tuple(self):
        for fact in good_facts():
            self.assertIs(is_fact(list(fact)), False)

    def test_other_values(self):
        for value in wrong_facts():
            self.assertIs(is_fact(value), False, value)


class Passed(Checks, unittest.TestCase):
    """Points 9 and 41: what is raised for facts, by each function that has them."""

    def calls(self):
        """Functions of facts, each one with a sheet as its first argument."""
        sheet = Sheet(CUES)
        return [lambda facts: broken(sheet, facts, TempoMap()), lambda facts: broken(sheet, facts, "no map"),
                lambda facts: bound(sheet, "beats", 0, 1, facts=facts),
                lambda facts: order_map(sheet, [[0], [1], [2]], facts=facts),
                lambda facts: shows_ring(sheet, [[0], [1], [2]], "beats", [], facts=facts)]

    def check_facts(self, kind, field, value, facts):
        for call in self.calls():
            self.check_raises(kind, field, value, call, facts)

    def test_wrong_lists(self):
        for value in values_without(list, tuple) + [{0: FACTS[0]}]:
            self.check_facts(InvalidPart, "value", value, value)

    def test_wrong_facts(self):
        for item in wrong_facts():
            self.check_facts(InvalidFact, "value", item, [item])
        for item in [FACTS, ["order"], ("order", "a", "after", "x", "y"), None]:
            self.check_facts(InvalidFact, "value", item, [*FACTS, item, "x"])
            self.check_facts(InvalidFact, "value", item, (lists(FACTS[0]), item))

    def test_unknown_cues(self):
        for value in values_without(str) + ["c", "", "A", "start "]:
            for fact in [("order", value, "same", "a"), ("order", "a", "same", value), ("order", value, "same", ["x"]),
                         ("apart", "beats", value, "a", 1), ("apart", "beats", "start", value, 1),
                         ("apart", "beats", value, "x", 1), ("between", "seconds", value, "b", None, None),
                         ("between", "seconds", "b", value, 1, 2), ("between", "seconds", value, "y", 1, 2)]:
                self.check_facts(UnknownCue, "label", value, [fact])
                self.check_facts(UnknownCue, "label", value, [FACTS[0], list(fact), "no fact"])

    def test_the_form_is_checked_before_the_names(self):
        item = ("order", "x", "never", "y")
        self.check_facts(InvalidFact, "value", item, [item])
        self.check_facts(UnknownCue, "label", "x", [("order", "x", "same", "y"), item])

    def test_one_fact(self):
        sheet, tempo = Sheet(CUES), TempoMap()
        for item in wrong_facts():
            self.check_raises(InvalidFact, "value", item, holds, sheet, item, tempo)
            self.check_raises(InvalidFact, "value", item, holds, sheet, item, "no map")
        for value in values_without(str) + ["c", ""]:
            self.check_raises(UnknownCue, "label", value, holds, sheet, ("order", value, "same", "x"), None)
            self.check_raises(UnknownCue, "label", value, holds, sheet, ["apart", "beats", "a", value, 1], tempo)

    def test_the_first_wrong_argument_counts(self):
        sheet, tempo = Sheet(CUES), TempoMap()
        first, second, third = ["sheet"], ["fact"], ["map"]
        wrong = [(first, InvalidSheet, "value", first), (second, InvalidFact, "value", second),
                 (third, InvalidMap, "value", third)]
        self.check_turns(holds, [sheet, FACTS[0], tempo], wrong)
        facts = {"no": "list"}
        self.check_turns(broken, [sheet, FACTS, tempo], [wrong[0], (facts, InvalidPart, "value", facts), wrong[2]])
        self.check_turns(broken, [sheet, FACTS, tempo], [wrong[0], ([second], InvalidFact, "value", second), wrong[2]])
        for call, good in [(holds, FACTS[0]), (broken, FACTS)]:
            for value in values_without(Sheet):
                self.check_raises(InvalidSheet, "value", value, call, value, good, tempo)
            for value in values_without(TempoMap):
                self.check_raises(InvalidMap, "value", value, call, sheet, good, value)


class Holding(unittest.TestCase):
    """Point 42."""

    def test_example_of_the_document(self):
        sheet = Sheet(CUES)
        told = [broken(sheet, FACTS, TempoMap([])), broken(sheet, FACTS, TempoMap([(0, 0), (Amount(1, 2), 3)]))]
        self.assertEqual(told, [[0, 1], []])

    def test_dealt_facts(self):
        dealer = Dealer(42)
        seen = []
        for number in range(150):
            cues, points = dealer.cues(1 + number % 12), dealer.points(number % 8)
            sheet, tempo = Sheet(cues), TempoMap(points)
            facts = [dealer.fact(cues) for _ in range(6)]
            told = [holds(sheet, fact, tempo) for fact in facts]
            self.assertEqual(told, [fact_holds(cues, points, fact) for fact in facts])
            self.assertEqual(broken(sheet, facts, tempo), [index for index in range(6) if not told[index]])
            seen = seen + told
        self.assertTrue({True, False} <= set(seen))
        self.assertTrue(all(item is True or item is False for item in seen))

    def test_words(self):
        sheet, tempo = Sheet([*CUES, ("c", "a", "beats", 0)]), TempoMap()
        told = {word: [holds(sheet, ("order", one, word, other), tempo) for one, other in ["ab", "ba", "ac", "aa"]]
                for word in WORDS}
        self.assertEqual(told, {"before": [True, False, False, False], "same": [False, False, True, True],
                                "after": [False, True, False, False]})

    def test_amounts_and_limits(self):
        sheet, tempo = Sheet(CUES), TempoMap([(0, 1), (2, 3), (6, 4)])
        # a lies at the beat 2 and the second 3, b at the beat 6 and the second 4.
        for unit, amount in [("beats", 4), ("seconds", 1)]:
            for number in [amount - 1, Amount(2 * amount - 1, 2), amount, Amount(amount), amount + 1]:
                exact = number in [amount, Amount(amount)]
                self.assertIs(holds(sheet, ("apart", unit, "a", "b", number), tempo), exact)
                self.assertIs(holds(sheet, ("apart", unit, "b", "a", -number), tempo), exact)
                over = number == amount + 1
                less = not exact and not over
                self.assertIs(holds(sheet, ("between", unit, "a", "b", number, None), tempo), less)
                self.assertIs(holds(sheet, ("between", unit, "a", "b", None, number), tempo), over)
                self.assertIs(holds(sheet, ("between", unit, "b", "a", -number, None), tempo), over)
                self.assertIs(holds(sheet, ("between", unit, "a", "b", number, 9), tempo), less)
                self.assertIs(holds(sheet, ("between", unit, "a", "b", -9, number), tempo), over)
            self.assertIs(holds(sheet, ("between", unit, "a", "b", None, None), tempo), True)
            self.assertIs(holds(sheet, ("between", unit, "a", "b", 9, -9), tempo), False)

    def test_lists_tuples_and_names(self):
        sheet, tempo = Sheet(CUES), TempoMap([(0, 0), (Amount(1, 2), 3)])
        for facts in [lists(FACTS), tuples(FACTS), tuple(lists(FACTS)), FACTS]:
            self.assertEqual(broken(sheet, facts, TempoMap()), [0, 1])
            self.assertEqual(broken(tempo=tempo, facts=facts, sheet=sheet), [])
            self.assertIs(holds(tempo=tempo, fact=facts[0], sheet=sheet), True)
            self.assertEqual(bound(sheet, "beats", 2, 1, facts=facts), (Amount(1), True))
        self.assertEqual(broken(sheet, [], tempo), [])
        self.assertEqual(broken(sheet, (), tempo), [])

    def test_arguments_are_not_changed(self):
        sheet, facts = Sheet(CUES), lists(FACTS)
        kept = copy.deepcopy(facts)
        broken(sheet, facts, TempoMap()).append(7)
        bound(sheet, "beats", 2, 1, facts=facts)
        holds(sheet, facts[1], TempoMap())
        self.assertEqual(facts, kept)
        self.assertEqual(broken(sheet, facts, TempoMap()), [0, 1])

    def test_long_amounts(self):
        cues = [("a", "start", "beats", sixty(1)), ("b", "a", "seconds", sixty(2)), ("c", "b", "beats", -sixty(3))]
        points = [(sixty(0) * number, sixty(number) * number * number) for number in range(12)]
        sheet, tempo = Sheet(cues), TempoMap(points)
        exact = sixty(1)
        near = exact + Amount(1, 10 ** 59)
        self.assertIs(holds(sheet, ("apart", "beats", "start", "a", exact), tempo), True)
        self.assertIs(holds(sheet, ("apart", "beats", "start", "a", near), tempo), False)
        self.assertIs(holds(sheet, ("between", "beats", "start", "a", None, near), tempo), True)
        self.assertIs(holds(sheet, ("between", "beats", "start", "a", near, None), tempo), False)
        for fact in [("order", "c", "before", "start"), ("between", "seconds", "c", "a", sixty(4), None)]:
            self.assertIs(holds(sheet, fact, tempo), fact_holds(cues, points, fact))


class Bounds(Checks, unittest.TestCase):
    """Point 43."""

    def test_example_of_the_document(self):
        sheet = Sheet(CUES)
        told = bound(sheet, "beats", sheet.moment("b"), sheet.moment("a"), facts=FACTS)
        self.assertEqual([told[0] == Amount(1), told[1], bound(sheet, "beats", 1, 2, facts=FACTS)], [True, True, None])

    def check_bounds(self, cues, facts):
        sheet = Sheet(cues)
        count = len(moments_of(cues))
        for unit in UNITS:
            for one in range(count):
                for other in range(count):
                    told = bound(sheet, unit, one, other, facts=facts)
                    self.assertEqual(plain(told), bound_of(cues, unit, one, other, facts))
                    if told is not None:
                        self.assertIsInstance(told, tuple)
                        self.assertEqual([item.__class__ for item in told], [Amount, bool])

    def test_dealt_facts(self):
        dealer = Dealer(43)
        for number in range(80):
            cues = dealer.cues(1 + number % 4)
            self.check_bounds(cues, [dealer.fact(cues) for _ in range(number % 7)])

    def test_all_facts_of_one_pair(self):
        forms = [("apart", "beats", "a", "b", 1), ("apart", "beats", "b", "a", -1), ("apart", "beats", "a", "b", -1),
                 ("between", "beats", "a", "b", 1, None), ("between", "beats", "b", "a", None, -1),
                 ("between", "beats", "a", "b", None, 1), ("between", "seconds", "a", "b", 5, 6),
                 ("between", "beats", "a", "b", 2, 1), ("order", "a", "before", "b")]
        for one in forms:
            for other in forms:
                self.check_bounds(CUES, [one, other])

    def test_a_strict_fact_counts_beside_an_equal_one(self):
        sheet = Sheet(CUES)
        apart, more = ("apart", "beats", "a", "b", 2), ("between", "beats", "a", "b", 2, None)
        larger = ("apart", "beats", "b", "a", -3)
        told = [bound(sheet, "beats", 1, 2, facts=facts) for facts in [[apart], [more], [apart, more], [more, apart],
                                                                       [more, larger], [larger, more, apart]]]
        two, three = Amount(2), Amount(3)
        self.assertEqual(told, [(two, False), (two, True), (two, True), (two, True), (three, False), (three, False)])

    def test_facts_about_other_cues_at_the_same_moments(self):
        cues = [*CUES, ("c", "a", "beats", 0), ("d", "c", "beats", -2)]
        sheet = Sheet(cues)
        facts = [("apart", "seconds", "c", "b", 4), ("between", "seconds", "d", "start", 1, 2)]
        self.assertEqual(bound(sheet, "seconds", 1, 2, facts=facts), (Amount(4), False))
        self.assertEqual(bound(sheet, "seconds", 2, 1, facts=facts), (Amount(-4), False))
        self.assertEqual(bound(sheet, "seconds", 0, 0, facts=facts), (Amount(1), True))
        self.assertIsNone(bound(sheet, "seconds", 1, 1, facts=facts))
        self.check_bounds(cues, facts)

    def test_facts_about_one_moment(self):
        sheet = Sheet(CUES)
        for amount in [-3, 0, 3]:
            told = bound(sheet, "beats", 1, 1, facts=[("apart", "beats", "a", "a", amount)])
            self.assertEqual(told, (Amount(abs(amount)), False))

    def test_what_says_nothing(self):
        sheet = Sheet(CUES)
        self.assertIsNone(bound(sheet, "beats", 0, 1))
        self.assertIsNone(bound(sheet, "beats", 0, 1, facts=[]))
        for fact in [("order", "start", "before", "a"), ("between", "beats", "start", "a", None, None),
                     ("apart", "seconds", "start", "a", 1), ("between", "beats", "start", "a", None, 1)]:
            self.assertIsNone(bound(sheet, "beats", 0, 1, facts=[fact]))

    def test_long_amounts_and_six_facts(self):
        facts = [("between", "beats", "a", "b", sixty(number), sixty(number + 9)) for number in range(3)]
        facts = facts + [("apart", "beats", "b", "a", -sixty(number)) for number in range(3)]
        self.check_bounds(CUES, facts)

    def test_by_name(self):
        told = bound(other=1, one=2, unit="beats", sheet=Sheet(CUES), facts=FACTS)
        self.assertEqual(told, (Amount(1), True))
        with self.assertRaises(TypeError):
            bound(Sheet(CUES), "beats", 2, 1, FACTS)

    def test_wrong_arguments(self):
        sheet = Sheet(CUES)
        for value in values_without(Sheet):
            self.check_raises(InvalidSheet, "value", value, bound, value, "beats", 0, 0)
        for value in any_values() + strings() + integers():
            self.check_raises(InvalidUnit, "value", value, bound, sheet, value, 0, 0)
        for value in values_without(int) + [True, False, -1, 3, 10 ** 59]:
            self.check_raises(InvalidInteger, "value", value, bound, sheet, "beats", value, 0)
            self.check_raises(InvalidInteger, "value", value, bound, sheet, "beats", 0, value)

    def test_the_first_wrong_argument_counts(self):
        values = [["sheet"], ["unit"], ["one"], ["other"]]
        kinds = [InvalidSheet, InvalidUnit, InvalidInteger, InvalidInteger]
        wrong = [(value, kind, "value", value) for value, kind in zip(values, kinds)]
        facts, item = {"no": "list"}, ["no", "fact"]
        for last in [(facts, InvalidPart, "value", facts), ([FACTS[0], item], InvalidFact, "value", item)]:
            self.check_turns(lambda sheet, unit, one, other, facts: bound(sheet, unit, one, other, facts=facts),
                             [Sheet(CUES), "beats", 0, 1, FACTS], [*wrong, last])


if __name__ == "__main__":
    unittest.main()
