"""Points 51 to 54, and points 4, 5, 7, 8, 9 and 10 as far as they speak of orders."""

import copy
import unittest

from anytempo.amounts import Amount
from anytempo.errors import InvalidFact, InvalidOrder, InvalidPart, InvalidSheet, UnknownCue
from anytempo.facts import holds
from anytempo.maps import TempoMap, order_by, places
from anytempo.orders import is_order, order_map, shows_ring
from anytempo.sheets import Sheet
from reckoned import (
    Dealer, UNITS, WORDS, all_orders, contradicts, fact_holds, moments_of, places_of, plain, step_says,
)
from values import Checks, all_values, lists, sixty, tuples, values_without

CUES = [("a", "start", "beats", 2), ("b", "start", "seconds", 3), ("c", "b", "beats", 1)]
ORDER = [[0], [1], [2, 3]]
RING = [("same", 3, 2), ("shift", 2, 3)]


class Orders(Checks, unittest.TestCase):
    """Points 4 and 51."""

    def test_every_order(self):
        for cues in [[], CUES[:1], CUES[:2], CUES]:
            sheet = Sheet(cues)
            for count in range(1, 6):
                for order in all_orders(count):
                    self.assertIs(is_order(sheet, order), count == len(cues) + 1)

    def test_any_order_of_the_numbers_within_a_group(self):
        for order in [[[3, 2], [0, 1]], [[2, 3], [1, 0]], [[1, 3, 0, 2]], [[3], [2], [1], [0]]]:
            self.assertIs(is_order(Sheet(CUES), order), True)
            self.assertIs(is_order(Sheet(CUES), tuples(order)), True)
            self.assertIs(is_order(Sheet(CUES), [tuple(group) for group in order]), True)
            self.assertIs(is_order(value=order, sheet=Sheet(CUES)), True)

    def wrong_orders(self):
        """Values that are no orders of the sheet of CUES."""
        found = values_without(list, tuple)
        found = found + [[], (), [[]], [0, 1, 2, 3], [[0], [1], [2], 3], [[0], [1], [2], [3], []], [[], [0, 1, 2, 3]],
                         [[0], [1], [2]], [[0], [1], [2], [4]], [[0], [1], [2], [-1]], [[0], [1], [2], [3], [3]],
                         [[0, 0], [1], [2], [3]], [[0, 0], [1], [2]], [[1], [2], [3], [4]],
                         [[0, 1, 2, 3], [0, 1, 2, 3]], [[[0]], [1], [2], [3]], {0: [0, 1, 2, 3]},
                         [{0: 0}, [1], [2], [3]], "0123", ["0", "1", "2", "3"], [["0"], ["1"], ["2"], ["3"]],
                         [None], [[0], None]]
        for value in values_without(int) + [True, False, 10 ** 59]:
            found = found + [[[0], [value], [2], [3]], [[0, value, 2, 3]], [[value, 1], [2, 3]], [value],
                             [[0], [1], [2], [3], [value]], [[0, 1, 2, 3], value]]
        return found

    def test_other_values(self):
        for value in self.wrong_orders():
            self.assertIs(is_order(Sheet(CUES), value), False, value)
        self.assertIs(is_order(Sheet([]), [[False]]), False)
        self.assertIs(is_order(Sheet(CUES[:1]), [[0], [True]]), False)

    def test_twelve_cues_at_eight_moments(self):
        sheet = Sheet([("abcdefghijkl"[index], "start", "beats", min(index, 7)) for index in range(12)])
        self.assertIs(is_order(sheet, [[7, 6], [5], [4, 3, 2], [1], [0]]), True)
        self.assertIs(is_order(sheet, [[number] for number in range(12)]), False)

    def test_wrong_sheets(self):
        for value in values_without(Sheet):
            self.check_raises(InvalidSheet, "value", value, is_order, value, ORDER)
            self.check_raises(InvalidSheet, "value", value, is_order, value, None)

    def test_wrong_orders_elsewhere(self):
        sheet = Sheet(CUES)
        for value in self.wrong_orders():
            self.check_raises(InvalidOrder, "value", value, order_map, sheet, value)
            self.check_raises(InvalidOrder, "value", value, order_map, sheet, value, facts="no list")
            self.check_raises(InvalidOrder, "value", value, shows_ring, sheet, value, "beats", RING)
            self.check_raises(InvalidOrder, "value", value, shows_ring, sheet, value, None, None, facts=[None])


class Answers(Checks, unittest.TestCase):
    """Points 10 and 53."""

    def test_example_of_the_document(self):
        sheet = Sheet(CUES)
        self.assertEqual(order_map(sheet, [[0], [2], [3], [1]])[0], "map")
        told = order_map(sheet, ORDER)
        self.assertEqual([told[0], told[1], len(told[2])], ["ring", "beats", 2])
        self.assertIs(shows_ring(sheet, ORDER, told[1], told[2]), True)
        self.assertIs(shows_ring(sheet, ORDER, "beats", RING), True)

    def wrong_fact(self, cues, order, facts):
        """The index of the first fact of order that is not right, or None."""
        sheet = Sheet(cues)
        groups = {number: index for index, group in enumerate(order) for number in group}
        for index, fact in enumerate(facts):
            if fact[0] == "order":
                one, other = groups[sheet.moment(fact[1])], groups[sheet.moment(fact[3])]
                if fact[2] != ("before" if one < other else "after" if one > other else "same"):
                    return index
        return None

    def check_answer(self, cues, order, facts):
        """An answer is what it says; returns its first word."""
        sheet = Sheet(cues)
        told = order_map(sheet, order, facts=facts)
        self.assertIsInstance(told, tuple)
        wrong = self.wrong_fact(cues, order, facts)
        self.assertEqual(told[0] == "fact", wrong is not None)
        if wrong is not None:
            self.assertEqual(told, ("fact", wrong))
            self.assertIs(told[1].__class__, int)
        elif told[0] == "map":
            self.check_map(cues, order, facts, told)
        else:
            self.check_ring(cues, order, facts, told)
        return told[0]

    def check_map(self, cues, order, facts, told):
        sheet = Sheet(cues)
        word, tempo = told
        self.assertEqual([word, tempo.__class__], ["map", TempoMap])
        self.assertEqual(order_by(sheet, tempo), [sorted(group) for group in order])
        self.assertTrue(all(holds(sheet, fact, tempo) is True for fact in facts))
        found = places_of(cues, tempo.points())
        self.assertEqual({name: plain(places(sheet, tempo)[sheet.moment(name)]) for name in found}, found)
        self.assertTrue(all(fact_holds(cues, tempo.points(), fact) for fact in facts))
        beats = {sheet.moment(name): found[name][0] for name in found}
        by_beats = [[beats[number] for number in group] for group in order]
        self.assertEqual([group[0] for group in by_beats], sorted(set(beats.values())))
        self.assertTrue(all(len(set(group)) == 1 for group in by_beats))

    def check_ring(self, cues, order, facts, told):
        word, unit, steps = told
        self.assertEqual([word, steps.__class__, unit in UNITS], ["ring", list, True])
        for step in steps:
            self.assertEqual([step.__class__, len(step)], [tuple, 3])
            self.assertEqual([item.__class__ for item in step], [str, int, int])
        self.assertTrue(contradicts(cues, order, unit, steps, facts), (cues, order, facts, told))
        self.assertIs(shows_ring(Sheet(cues), order, unit, steps, facts=facts), True)

    def test_all_orders_of_small_sheets(self):
        dealer = Dealer(53)
        seen = {}
        for number in range(80):
            cues = dealer.cues(number % 4)
            facts = [dealer.fact(cues) for _ in range(number % 3)]
            for order in all_orders(len(moments_of(cues))):
                word = self.check_answer(cues, order, facts)
                seen[word] = seen.get(word, 0) + 1
        self.assertTrue(min(seen.get(word, 0) for word in ["map", "fact", "ring"]) > 40, seen)

    def test_orders_of_larger_sheets(self):
        dealer = Dealer(54)
        for number in range(150):
            cues = dealer.cues(4 + number % 9)
            order = dealer.order(len(moments_of(cues)))
            self.check_answer(cues, order, [dealer.fact(cues) for _ in range(number % 7)])

    def test_orders_that_maps_have(self):
        dealer = Dealer(55)
        for number in range(150):
            cues, points = dealer.cues(1 + number % 12), dealer.points(number % 10)
            facts = [dealer.fact(cues) for _ in range(30)]
            facts = [fact for fact in facts if fact_holds(cues, points, fact)][:6]
            order = order_by(Sheet(cues), TempoMap(points))
            self.assertEqual(self.check_answer(cues, order, facts), "map")

    def test_long_amounts(self):
        cues = [("a", "start", "beats", sixty(1)), ("b", "a", "seconds", -sixty(2)), ("c", "b", "beats", sixty(3)),
                ("d", "c", "seconds", sixty(4)), ("e", "d", "beats", -sixty(5)), ("f", "e", "seconds", sixty(6)),
                ("g", "f", "beats", sixty(7))]
        points = [(sixty(0) * number, sixty(number) * number * number) for number in range(12)]
        sheet, tempo = Sheet(cues), TempoMap(points)
        order = order_by(sheet, tempo)
        gap = places(sheet, tempo)[4][0] - places(sheet, tempo)[2][0]
        near = Amount(1, 10 ** 59)
        facts = [("between", "beats", "b", "d", gap - near, gap + near),
                 ("apart", "seconds", "start", "a", tempo(sixty(1)) - tempo(0))]
        self.assertEqual(self.check_answer(cues, order, facts), "map")
        for wrong in [("apart", "beats", "b", "d", gap + near), ("apart", "beats", "a", "start", -sixty(1) - near)]:
            self.assertEqual(self.check_answer(cues, order, [*facts, wrong]), "ring")

    def test_a_tiny_difference_counts(self):
        high = 10 ** 60 - 1
        cues = [("a", "start", "beats", Amount(1, high)), ("b", "start", "beats", Amount(1, high - 1))]
        self.assertEqual(self.check_answer(cues, [[0], [1], [2]], []), "map")
        for order in [[[0], [1, 2]], [[0], [2], [1]], [[0, 1], [2]], [[0, 1, 2]]]:
            self.assertEqual(self.check_answer(cues, order, []), "ring")

    def test_sums_that_are_just_strict(self):
        cues = [("a", "start", "beats", 2), ("b", "start", "seconds", 1), ("c", "b", "seconds", 1)]
        order = [[0], [2], [1], [3]]
        fact = ("apart", "seconds", "start", "a", 2)
        self.assertEqual(self.check_answer(cues, order, [fact]), "ring")
        self.assertEqual(self.check_answer(cues, [[0], [2], [1, 3]], [fact]), "map")
        for low, high, word in [(1, 2, "map"), (2, None, "ring"), (Amount(199, 100), None, "map")]:
            self.assertEqual(self.check_answer(cues, order, [("between", "seconds", "start", "a", low, high)]), word)

    def test_strict_steps_do_not_add_up_to_an_amount(self):
        cues = [("abcdefg"[index], "start", "seconds", index + 1) for index in range(7)]
        order = [[0], [1], [2], [3], [4], [5], [6], [7]]
        tiny = Amount(1, 10 ** 60 - 1)
        for fact, word in [(("apart", "beats", "start", "g", tiny), "map"),
                           (("apart", "beats", "start", "g", 0), "ring"),
                           (("between", "beats", "start", "g", None, tiny), "map"),
                           (("between", "beats", "start", "g", -5, 0), "ring"),
                           (("between", "beats", "g", "start", -tiny, 0), "map")]:
            self.assertEqual(self.check_answer(cues, order, [fact]), word)

    def test_facts_that_contradict_themselves(self):
        for fact in [("between", "beats", "a", "b", 1, 1), ("between", "seconds", "a", "b", 3, -3),
                     ("apart", "beats", "a", "a", 1), ("apart", "beats", "a", "a", Amount(-1, 9)),
                     ("between", "seconds", "b", "b", 0, None), ("between", "seconds", "b", "b", None, 0)]:
            for order in all_orders(3):
                self.assertEqual(self.check_answer(CUES[:2], order, [fact]), "ring")
        self.assertEqual(self.check_answer(CUES[:2], [[0], [1], [2]], [("between", "beats", "b", "b", -1, 1)]), "map")

    def test_the_first_wrong_fact_of_order(self):
        sheet = Sheet(CUES)
        right, wrong = ("order", "start", "before", "a"), ("order", "a", "after", "b")
        ring = ("apart", "beats", "a", "a", 1)
        order = [[0], [1], [2], [3]]
        for facts, index in [([wrong], 0), ([right, wrong, wrong], 1), ([ring, right, wrong], 2), ([wrong, ring], 0),
                             ([right] * 5 + [wrong], 5)]:
            self.assertEqual(order_map(sheet, order, facts=facts), ("fact", index))
        for word in WORDS:
            told = order_map(sheet, order, facts=[("order", "b", word, "a")])
            self.assertEqual(told == ("fact", 0), word != "after")
        for word in WORDS:
            told = order_map(sheet, [[0], [1, 2], [3]], facts=[("order", "b", word, "a")])
            self.assertEqual(told == ("fact", 0), word != "same")

    def test_lists_tuples_and_names(self):
        sheet = Sheet(CUES)
        facts = [("order", "start", "before", "a"), ("between", "seconds", "a", "b", None, 4)]
        for order in [[[0], [2], [3], [1]], ORDER]:
            first = order_map(sheet, order, facts=facts)
            for told in [order_map(sheet, tuples(order), facts=lists(facts)),
                         order_map(sheet, order, facts=tuples(facts)),
                         order_map(facts=tuple(lists(facts)), order=[tuple(group) for group in order], sheet=sheet)]:
                self.assertEqual(told[0], first[0])
        with self.assertRaises(TypeError):
            order_map(sheet, ORDER, facts)

    def test_what_was_passed_is_not_changed_and_what_was_told_may_be(self):
        sheet, order, facts = Sheet(CUES), [[0], [1], [3, 2]], [["order", "start", "before", "a"]]
        kept = copy.deepcopy([order, facts])
        told = order_map(sheet, order, facts=facts)
        again = copy.deepcopy(told)
        self.assertEqual([order, facts], kept)
        told[2].clear()
        self.assertEqual(order_map(sheet, order, facts=facts), again)
        self.assertIs(shows_ring(sheet, order, again[1], again[2], facts=facts), True)
        self.assertEqual([order, facts], kept)

    def test_exchanged_units_and_stretched_amounts(self):
        dealer = Dealer(56)
        other = {"beats": "seconds", "seconds": "beats"}
        for number in range(40):
            cues = dealer.cues(1 + number % 4)
            order = dealer.order(len(moments_of(cues)))
            turned = [(name, parent, other[unit], amount) for name, parent, unit, amount in cues]
            back = [(name, parent, unit, -amount) for name, parent, unit, amount in cues]
            longer = [(*cue[:3], cue[3] * 7 if cue[2] == "beats" else cue[3]) for cue in cues]
            word = self.check_answer(cues, order, [])
            self.assertEqual(self.check_answer(turned, order, []), word)
            self.assertEqual(self.check_answer(back, order[::-1], []), word)
            self.assertEqual(self.check_answer(longer, order, []), word)


class Passed(Checks, unittest.TestCase):
    """Points 9, 41, 53 and 54: what is raised, and in which order."""

    def calls(self):
        return [lambda sheet, order, facts: order_map(sheet, order, facts=facts),
                lambda sheet, order, facts: shows_ring(sheet, order, "beats", RING, facts=facts),
                lambda sheet, order, facts: shows_ring(sheet, order, "no unit", "no ring", facts=facts)]

    def test_wrong_sheets(self):
        for call in self.calls():
            for value in values_without(Sheet):
                self.check_raises(InvalidSheet, "value", value, call, value, ORDER, [])

    def test_the_first_wrong_argument_counts(self):
        sheet, order, facts, item = ["sheet"], ["order"], {"no": "list"}, ["no", "fact"]
        unknown = ["no name"]
        for call in self.calls():
            for last in [(facts, InvalidPart, "value", facts), ([item], InvalidFact, "value", item),
                         ([("order", unknown, "same", "x"), item], UnknownCue, "label", unknown)]:
                self.check_turns(call, [Sheet(CUES), ORDER, []], [(sheet, InvalidSheet, "value", sheet),
                                                                  (order, InvalidOrder, "value", order), last])


class Rings(Checks, unittest.TestCase):
    """Points 7, 52 and 54."""

    def setUp(self):
        self.sheet = Sheet(CUES)

    def shows(self, steps, unit="beats", order=ORDER, facts=()):
        told = shows_ring(self.sheet, order, unit, steps, facts=facts)
        self.assertIn(told, [True, False])
        return told

    def test_all_short_lists_of_steps(self):
        facts = [("apart", "beats", "a", "b", 0), ("between", "seconds", "b", "a", -1, 1),
                 ("between", "beats", "c", "c", -1, None)]
        kinds = ["shift", "fact", "later", "same"]
        steps = [(kind, one, other) for kind in kinds for one in range(4) for other in range(4)]
        seen = []
        for order in [ORDER, [[1, 2], [0], [3]]]:
            for unit in UNITS:
                right = [step for step in steps if step_says(CUES, order, unit, step, facts) is not None]
                rows = [[step] for step in steps] + [[one, other] for one in right for other in right]
                rows = rows + [[one, other, third] for one in right for other in right for third in right
                               if one[2] == other[1] and other[2] == third[1]]
                for row in rows:
                    told = self.shows(row, unit, order, facts)
                    self.assertEqual(told, contradicts(CUES, order, unit, row, facts), row)
                    seen.append(told)
        self.assertTrue(50 < seen.count(True) < len(seen) - 50)

    def test_each_kind(self):
        facts = [("apart", "beats", "b", "start", 0)]
        for steps, expected in [
                (RING, True), (RING[::-1], True), ([("same", 2, 3), ("shift", 3, 2)], False),
                ([("shift", 2, 3), ("shift", 3, 2)], False), ([("later", 0, 2), ("fact", 2, 0)], True),
                ([("fact", 0, 2), ("fact", 2, 0)], False), ([("later", 0, 2), ("later", 2, 0)], False),
                ([("later", 0, 1), ("shift", 1, 0)], False), ([("same", 0, 0)], False), ([("later", 0, 0)], False),
                ([("shift", 0, 0)], False), ([("later", 0, 2), ("fact", 2, 0), ("same", 0, 0), ("shift", 0, 0)], True),
                ([("later", 1, 2), ("fact", 2, 1)], False), ([("later", 0, 1), ("later", 1, 2), ("fact", 2, 0)], True)]:
            self.assertIs(self.shows(steps, facts=facts), expected, steps)

    def test_steps_that_are_not_right_for_the_order(self):
        self.assertIs(self.shows(RING, order=[[0], [1], [2], [3]]), False)
        self.assertIs(self.shows([("later", 3, 2), ("shift", 2, 3)], order=[[0], [1], [3], [2]]), True)
        self.assertIs(self.shows([("later", 3, 2), ("shift", 2, 3)]), False)
        self.assertIs(self.shows(RING, unit="seconds"), False)

    def test_steps_that_are_no_ring(self):
        for steps in [[], [("shift", 2, 3)], [("shift", 2, 3), ("same", 2, 3)],
                      [("same", 3, 2), ("same", 3, 2), ("shift", 2, 3)], [("same", 2, 3), ("shift", 2, 3)],
                      RING[:1], RING[1:]]:
            self.assertIs(self.shows(steps), False)

    def test_up_to_forty_steps(self):
        for count in range(1, 24):
            steps = RING * count
            self.assertIs(self.shows(steps), count <= 20)
            self.assertIs(self.shows([*steps, ("same", 3, 3)]), count < 20)
            self.assertIs(self.shows([("shift", 3, 3), *steps]), count < 20)
        self.assertIs(self.shows(RING * 500), False)

    def test_long_sums(self):
        self.sheet = Sheet([("a", "start", "beats", sixty(1)), ("b", "start", "beats", sixty(1) + Amount(1, 10 ** 59))])
        order = [[0], [1, 2]]
        back = [("same", 2, 1), ("shift", 1, 2)]
        self.assertIs(self.shows(back * 20, order=order), True)
        self.assertIs(self.shows([("same", 1, 2), ("shift", 2, 1)] * 20, order=order), False)

    def test_only_a_list_of_tuples(self):
        for steps in [tuple(RING), lists(RING), tuples(RING), [list(RING[0]), RING[1]], [RING[0], list(RING[1])],
                      {0: RING[0], 1: RING[1]}]:
            self.assertIs(self.shows(steps), False)

    def test_true_and_false_are_not_numbers(self):
        order = [[1], [0], [2, 3]]
        ring = [("later", 1, 0), ("shift", 0, 1)]
        self.assertIs(self.shows(ring, order=order), True)
        for steps in [[("later", True, 0), ("shift", 0, 1)], [("later", 1, False), ("shift", 0, 1)],
                      [("later", 1, 0), ("shift", False, True)], [("later", True, False), ("shift", False, True)]]:
            self.assertIs(self.shows(steps, order=order), False)

    def test_other_values(self):
        for value in all_values():
            self.assertIs(self.shows(value), False)
            self.assertIs(self.shows(RING, unit=value), False)
            self.assertIs(self.shows(value, unit=value), False)
            self.assertIs(self.shows([value]), False)
            self.assertIs(self.shows([*RING, value]), False)
            self.assertIs(self.shows([(value, 3, 2), RING[1]]), False)
            self.assertIs(self.shows([(value, value, value)]), False)
            self.assertIs(self.shows([(*RING[0], value), RING[1]]), False)
        for value in values_without(int) + [True, False, -2, 4, 10 ** 59]:
            self.assertIs(self.shows([("same", 3, value), ("shift", value, 3)]), False)
            self.assertIs(self.shows([("same", value, 2), ("shift", 2, value)]), False)
        for step in [(), ("same",), ("same", 3), ("Same", 3, 2), ("", 3, 2), ("same", "3", 2), ("same", 3, 2, 0),
                     ("same", 3, 10 ** 59), ("same", -1, 2), ("same", 3, -2), ("same", 4, 4), ("before", 3, 2)]:
            self.assertIs(self.shows([step, RING[1]]), False)
            self.assertIs(self.shows([step]), False)

    def test_by_name(self):
        told = shows_ring(steps=RING, unit="beats", order=tuples(ORDER), sheet=self.sheet, facts=())
        self.assertIs(told, True)
        with self.assertRaises(TypeError):
            shows_ring(self.sheet, ORDER, "beats", RING, [])

    def test_arguments_are_not_changed(self):
        steps, order, facts = list(RING), copy.deepcopy(ORDER), [["apart", "beats", "a", "b", 1]]
        for _ in range(2):
            self.assertIs(self.shows(steps, order=order, facts=facts), True)
            self.assertEqual([steps, order, facts], [RING, ORDER, [["apart", "beats", "a", "b", 1]]])

    def test_a_ring_in_spite_of_a_wrong_fact_of_order(self):
        self.assertIs(self.shows(RING, facts=[("order", "a", "after", "b")]), True)

    def test_bounds_are_what_facts_say(self):
        third = Amount(1, 3)
        facts = [("between", "seconds", "b", "a", -third, -third), ("apart", "seconds", "a", "b", third)]
        ring = [("fact", 1, 2), ("fact", 2, 1)]
        self.assertIs(self.shows(ring, unit="seconds", facts=facts[1:]), False)
        self.assertIs(self.shows(ring, unit="seconds", facts=facts), True)
        self.assertIs(self.shows(ring, unit="beats", facts=facts), False)


if __name__ == "__main__":
    unittest.main()
