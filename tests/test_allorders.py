"""Points 71 to 74, and points 4, 5, 7, 8, 9 and 10 as far as they speak of all orders."""

import copy
import unittest

from anytempo.allorders import (
    can_be_first, can_be_last, order_count, order_list, orders, ranks, sure_words,
)
from anytempo.amounts import Amount
from anytempo.errors import InvalidFact, InvalidInteger, InvalidPart, InvalidSheet, TooMany, UnknownCue
from anytempo.maps import TempoMap, order_by
from anytempo.orders import is_order, order_map
from anytempo.relations import possible
from anytempo.sheets import Sheet
from hard import HARD, MANY
from reckoned import Dealer, all_orders, fact_holds, moments_of, words_in
from values import Checks, all_values, lists, sixty, tuples, values_without

CUES = [("a", "start", "beats", 2), ("b", "start", "seconds", 3)]
FACTS = [("order", "a", "before", "b")]


def earlier_groups(order):
    """For each moment, how many groups come before its own."""
    return [next(index for index, group in enumerate(order) if number in group)
            for number in range(sum(map(len, order)))]


def walked(cues, facts):
    """The possible orders by order_map, ascending, from all lists of groups."""
    sheet = Sheet(cues)
    found = [[sorted(group) for group in order] for order in all_orders(len(moments_of(cues)))
             if order_map(sheet, order, facts=facts)[0] == "map"]
    return sorted(found, key=earlier_groups)


class Answers(Checks, unittest.TestCase):
    """Points 4, 10 and 71 to 74."""

    def check_all(self, cues, facts, told):
        """All functions tell of a sheet what the listed orders, ascending, tell."""
        sheet = Sheet(cues)
        names = sheet.names()
        self.assertEqual(sorted(orders(sheet, facts=facts), key=earlier_groups), told)
        self.assertEqual(order_list(sheet, facts=facts, most=20000), told)
        self.assertEqual(order_count(sheet, facts=facts, most=20000), len(told))
        words = [words_in(order) for order in told]
        moment = sheet.moment
        for cue in names:
            numbers = {sum(word == "after" for pair, word in each.items() if pair[0] == moment(cue)) for each in words}
            self.assertEqual(ranks(sheet, cue, facts=facts), sorted(numbers))
        first = [cue for cue in names
                 if any(all(each[(moment(cue), moment(other))] != "after" for other in names) for each in words)]
        last = [cue for cue in names
                if any(all(each[(moment(cue), moment(other))] != "before" for other in names) for each in words)]
        self.assertEqual([can_be_first(sheet, facts=facts), can_be_last(sheet, facts=facts)], [first, last])
        sure = []
        for index, one in enumerate(names):
            for other in names[index + 1:]:
                found = {each[(moment(one), moment(other))] for each in words}
                sure.extend((one, word, other) for word in found if len(found) == 1)
        self.assertEqual(sure_words(sheet, facts=facts), sure)

    def test_example_of_the_document(self):
        sheet = Sheet(CUES)
        self.assertEqual([order_list(sheet), order_count(sheet, facts=FACTS), ranks(sheet, "b"), can_be_first(sheet)],
                         [[[[0], [1, 2]], [[0], [1], [2]], [[0], [2], [1]]], 1, [1, 2], ["a", "b"]])

    def test_small_sheets(self):
        dealer = Dealer(71)
        seen = 0
        for number in range(320):
            cues = dealer.cues(2 + number % 5)
            if len(moments_of(cues)) > (5 if number % 8 == 0 else 4):
                continue
            facts = dealer.near(cues, number // 2 % 2) + dealer.rigid(cues, number // 4 % 3)
            told = walked(cues, facts)
            self.check_all(cues, facts, told)
            seen = seen + (len(told) > 1)
        self.assertGreater(seen, 20)

    def test_the_order_of_the_list(self):
        sheet = Sheet([("a", "start", "seconds", 1), ("b", "start", "beats", -2), ("c", "b", "seconds", 3)])
        told = order_list(sheet)
        self.assertEqual([order[0] for order in told], [[2]] * len(told))
        self.assertEqual([earlier_groups(order) for order in told], sorted(earlier_groups(order) for order in told))
        self.assertEqual(told, walked(sheet.cues(), []))
        self.assertTrue(all(group == sorted(group) for order in told for group in order))

    def test_by_maps(self):
        dealer = Dealer(72)
        for number in range(25):
            cues, points = dealer.cues(4 + number % 9), dealer.points(number % 9)
            facts = [dealer.fact(cues) for _ in range(40)]
            facts = [fact for fact in facts if fact_holds(cues, points, fact)][:number % 7]
            sheet = Sheet(cues)
            told = order_list(sheet, facts=facts, most=20000)
            self.assertIn(order_by(sheet, TempoMap(points)), told)
            for order in dealer.dice.sample(told, min(len(told), 4)):
                self.assertIs(is_order(sheet, order), True)
                word, tempo = order_map(sheet, order, facts=facts)
                self.assertEqual([word, order_by(sheet, tempo)], ["map", order])
            self.check_all(cues, facts, told)

    def test_contradicting_facts(self):
        for cues, facts in [*HARD, (CUES, [("order", "a", "same", "start")]),
                            ([], [("apart", "beats", "start", "start", 1)])]:
            self.check_all(cues, facts, [])
            self.assertEqual(order_list(Sheet(cues), facts=facts, most=1), [])

    def test_sheets_without_cues(self):
        self.check_all([], [], [[[0]]])
        self.assertEqual([order_list(Sheet([])), order_count(Sheet([]), most=1), sure_words(Sheet([]))],
                         [[[[0]]], 1, []])
        self.assertEqual([can_be_first(Sheet([])), can_be_last(Sheet([]))], [[], []])

    def test_the_start_is_no_cue(self):
        sheet = Sheet([("a", "start", "beats", 2), ("b", "start", "beats", 3)])
        self.assertEqual([can_be_first(sheet), can_be_last(sheet), ranks(sheet, "a")], [["a"], ["b"], [1]])
        sheet = Sheet([("a", "start", "beats", -2), ("b", "a", "beats", 2), ("c", "start", "beats", 0)])
        self.assertEqual([can_be_first(sheet), can_be_last(sheet)], [["a"], ["b", "c"]])
        self.assertEqual([ranks(sheet, name) for name in "abc"], [[0], [1], [1]])
        self.assertEqual(sure_words(sheet), [("a", "before", "b"), ("a", "before", "c"), ("b", "same", "c")])

    def test_moments_without_cues_count_in_ranks(self):
        sheet = Sheet([("a", "start", "beats", -1), ("b", "start", "beats", -2), ("c", "start", "beats", 1),
                       ("d", "c", "beats", 0)])
        self.assertEqual([ranks(sheet, name) for name in sheet.names()], [[1], [0], [3], [3]])

    def test_sure_words_are_the_only_possible_ones(self):
        sheets = [(MANY, []), (MANY, [("between", "beats", "c", "f", 1, 9)])]
        for cues, facts in sheets + [(cues, facts[:3]) for cues, facts in HARD]:
            sheet = Sheet(cues)
            names = sheet.names()
            expected = []
            for index, one in enumerate(names):
                for other in names[index + 1:]:
                    words = possible(sheet, one, other, facts=facts)
                    expected = expected + [(one, words[0], other)] * (len(words) == 1)
            self.assertEqual(sure_words(sheet, facts=facts), expected)

    def test_turned_and_exchanged_and_stretched(self):
        dealer = Dealer(73)
        other = {"beats": "seconds", "seconds": "beats"}
        for number in range(30):
            cues = dealer.cues(1 + number % 7)
            sheet = Sheet(cues)
            across = Sheet([(name, parent, other[unit], amount) for name, parent, unit, amount in cues])
            back = Sheet([(name, parent, unit, -amount) for name, parent, unit, amount in cues])
            longer = Sheet([(*cue[:3], cue[3] * Amount(5, 3) if cue[2] == "beats" else cue[3]) for cue in cues])
            told = order_list(sheet, most=20000)
            self.assertEqual(order_list(across, most=20000), told)
            self.assertEqual(order_list(longer, most=20000), told)
            self.assertEqual(sorted(order[::-1] for order in order_list(back, most=20000)), sorted(told))


class Limits(Checks, unittest.TestCase):
    """Points 5, 10 and 72."""

    def test_more_than_a_thousand_orders(self):
        sheet = Sheet(MANY)
        told = order_list(sheet, most=20000)
        self.assertEqual([len(told), order_count(sheet, most=20000)], [1379, 1379])
        self.assertEqual(len({repr(order) for order in told}), 1379)
        self.assertEqual(len({repr(order) for order in orders(sheet)}), 1379)
        self.assertEqual(told, sorted(told, key=earlier_groups))
        for order in told[::100]:
            self.assertEqual(order_map(sheet, order)[0], "map")

    def test_most(self):
        sheet = Sheet(MANY)
        for most in [1, 2, 20, 1378]:
            for call in [order_list, order_count]:
                error = self.raised(TooMany, call, sheet, most=most)
                self.assertIs(error.most, most)
        self.assertEqual([len(order_list(sheet, most=1379)), order_count(sheet, most=1379)], [1379, 1379])
        for call in [order_list, order_count]:
            self.assertEqual(self.raised(TooMany, call, sheet).most, 20)
        sheet = Sheet(CUES)
        self.assertEqual([order_count(sheet, most=3), len(order_list(sheet, most=3)), order_count(sheet)], [3, 3, 3])
        for call in [order_list, order_count]:
            self.assertEqual(self.raised(TooMany, call, sheet, most=2).most, 2)
            self.assertEqual(self.raised(TooMany, call, sheet, most=1, facts=[]).most, 1)
            call(sheet, most=1, facts=FACTS)

    def test_long_amounts(self):
        near = Amount(1, 10 ** 60 - 1)
        cues = [("a", "start", "beats", sixty(1)), ("b", "a", "seconds", -sixty(2)), ("c", "b", "beats", sixty(3)),
                ("d", "c", "seconds", sixty(4)), ("e", "d", "beats", -sixty(5)), ("f", "e", "seconds", sixty(6)),
                ("g", "f", "beats", sixty(7)), ("h", "g", "beats", -sixty(7)), ("i", "h", "beats", 0),
                ("j", "i", "beats", 0)]
        sheet = Sheet(cues)
        told = order_list(sheet, most=20000)
        self.assertGreater(len(told), 100)
        facts = [("between", "beats", "b", "d", None, sixty(5)), ("between", "beats", "b", "d", sixty(5) - near, None)]
        fewer = order_list(sheet, facts=facts[:1], most=20000)
        fewest = order_list(sheet, facts=facts, most=20000)
        self.assertTrue(0 < len(fewest) <= len(fewer) < len(told))
        for order in fewest[::20]:
            self.assertEqual(order_map(sheet, order, facts=facts)[0], "map")


class Passed(Checks, unittest.TestCase):
    """Points 7, 8, 9, 71, 72 and 73."""

    def calls(self):
        """All functions of a sheet and facts."""
        return [lambda sheet, facts: next(orders(sheet, facts=facts), None),
                lambda sheet, facts: list(orders(facts=facts, sheet=sheet)),
                lambda sheet, facts: order_list(sheet, facts=facts), lambda sheet,
                facts: order_count(sheet, facts=facts),
                lambda sheet, facts: order_list(sheet, facts=facts, most=None) if sheet.__class__ is not Sheet else
                order_list(sheet, facts=facts), lambda sheet, facts: can_be_first(sheet, facts=facts),
                lambda sheet, facts: can_be_last(sheet, facts=facts), lambda sheet,
                facts: sure_words(sheet, facts=facts),
                lambda sheet, facts: ranks(sheet, "a", facts=facts)]

    def test_first_wrong_argument(self):
        sheet, facts, item, unknown = ["sheet"], {"no": "list"}, ["no", "fact"], ["no name"]
        for call in self.calls():
            for last in [(facts, InvalidPart, "value", facts), ([item], InvalidFact, "value", item),
                         ([("order", unknown, "same", "x"), item], UnknownCue, "label", unknown)]:
                self.check_turns(call, [Sheet(CUES), []], [(sheet, InvalidSheet, "value", sheet), last])
        for call in [order_list, order_count]:
            wrong = ["most"]
            for last in [(facts, InvalidPart, "value", facts), ([item], InvalidFact, "value", item)]:
                self.check_turns(lambda a, b, c: call(a, facts=b, most=c), [Sheet(CUES), [], 20],
                                 [(sheet, InvalidSheet, "value", sheet), last, (wrong, InvalidInteger, "value", wrong)])
        cue = ("no", "cue")
        self.check_turns(lambda a, b, c: ranks(a, b, facts=c), [Sheet(CUES), "b", []],
                         [(sheet, InvalidSheet, "value", sheet), (cue, UnknownCue, "label", cue),
                          (facts, InvalidPart, "value", facts)])

    def test_wrong_values(self):
        for value in values_without(Sheet):
            for call in self.calls():
                self.check_raises(InvalidSheet, "value", value, call, value, [])
        sheet = Sheet(CUES)
        for value in all_values() + ["start"]:
            if value.__class__ is not str or value not in sheet.names():
                self.check_raises(UnknownCue, "label", value, ranks, sheet, value)
                self.check_raises(UnknownCue, "label", value, ranks, sheet, value, facts=None)
        for value in values_without(int) + [True, False, 0, -1, 20001, 10 ** 59]:
            for call in [order_list, order_count]:
                self.check_raises(InvalidInteger, "value", value, call, sheet, most=value)
                # The number is checked even where there are no orders.
                self.check_raises(InvalidInteger, "value", value, call, sheet, most=value,
                                  facts=[("apart", "beats", "a", "a", 1)])

    def test_the_generator(self):
        sheet = Sheet(CUES)
        told = orders(sheet)
        self.assertIs(iter(told), told)
        first = next(told)
        kept = copy.deepcopy(first)
        first[0].append(7)
        rest = list(told)
        self.assertEqual(len(rest), 2)
        self.assertIn(kept, order_list(sheet))
        self.assertNotIn(kept, rest)
        self.assertIs(next(orders(sheet, facts=[("order", "a", "same", "start")]), None), None)

    def test_lists_tuples_and_names(self):
        sheet = Sheet(lists(CUES))
        for facts in [FACTS, lists(FACTS), tuples(FACTS), tuple(lists(FACTS))]:
            self.assertEqual(order_list(most=1, facts=facts, sheet=sheet), [[[0], [1], [2]]])
            self.assertEqual(order_count(most=20000, facts=facts, sheet=sheet), 1)
            self.assertEqual(list(orders(sheet=sheet, facts=facts)), [[[0], [1], [2]]])
            self.assertEqual(ranks(cue="b", facts=facts, sheet=sheet), [2])
            self.assertEqual([can_be_first(facts=facts, sheet=sheet), can_be_last(facts=facts, sheet=sheet)],
                             [["a"], ["b"]])
            self.assertEqual(sure_words(facts=facts, sheet=sheet), [("a", "before", "b")])
        for call in [lambda: order_list(sheet, []), lambda: ranks(sheet, "a", []), lambda: orders(sheet, []),
                     lambda: sure_words(sheet, [])]:
            with self.assertRaises(TypeError):
                call()

    def test_arguments_stay_and_results_are_new(self):
        sheet, facts = Sheet(CUES), lists(FACTS)
        for call in [order_list, can_be_first, can_be_last, sure_words, lambda sheet,
                     facts: ranks(sheet, "b", facts=facts),
                     lambda sheet, facts: list(orders(sheet, facts=facts))]:
            told = call(sheet, facts=facts)
            kept = copy.deepcopy(told)
            if isinstance(told[0], list):
                told[0][0].append(9)
            told.clear()
            self.assertEqual(call(sheet, facts=facts), kept)
            self.assertEqual(facts, lists(FACTS))
        found = [group for order in order_list(sheet) + order_list(sheet) for group in [order, *order]]
        self.assertEqual(len({id(item) for item in found}), len(found))


if __name__ == "__main__":
    unittest.main()
