"""Points 61 to 64, and points 4, 5, 7, 8, 9 and 10 as far as they speak of what is possible and of trees."""

import copy
import unittest

from anytempo.amounts import Amount
from anytempo.errors import InvalidFact, InvalidPart, InvalidSheet, InvalidWord, UnknownCue
from anytempo.facts import broken
from anytempo.maps import TempoMap, order_by, places
from anytempo.orders import order_map
from anytempo.relations import conflict, meets, possible, shows_conflict, shows_tree, why
from anytempo.sheets import Sheet
from hard import HARD, MANY
from reckoned import (
    Dealer, UNITS, WORDS, all_orders, fact_holds, moments_of, places_of, plain, rows_of, tree_contradicts, words_in,
)
from values import Checks, all_values, lists, sixty, tuples, values_without

CUES = [("a", "start", "beats", 2), ("b", "a", "seconds", 1), ("c", "b", "beats", -1)]
FACTS = [("order", "b", "before", "a"), ("order", "a", "same", "c"), ("between", "beats", "start", "a", None, 3)]
# The two facts contradict each other only by way of cases.
CROSSED = [("between", "beats", "a", "c", 0, None), ("between", "seconds", "a", "c", None, 0)]


def names_of(cues):
    return ["start", *[cue[0] for cue in cues]]


def sheet_orders(cues, facts):
    """All orders of a sheet for which order_map tells a map."""
    sheet = Sheet(cues)
    return [order for order in all_orders(len(moments_of(cues))) if order_map(sheet, order, facts=facts)[0] == "map"]


def small_sheets(seed, count, most):
    """Cues of sheets with few moments, with facts that sometimes contradict each other."""
    dealer = Dealer(seed)
    found = []
    while len(found) < count:
        cues = dealer.cues(1 + len(found) % most)
        if len(moments_of(cues)) <= most:
            facts = [dealer.fact(cues) for _ in range(dealer.dice.choice([0, 0, 1, 1, 2]))]
            found.append((cues, facts + dealer.near(cues, dealer.dice.choice([0, 1, 2]))))
    return found


class Evidence(Checks):
    """Checks of what why and meets tell; mixed into test cases."""

    def check_map(self, cues, facts, told):
        sheet = Sheet(cues)
        word, tempo = told
        self.assertEqual([told.__class__, word, tempo.__class__], [tuple, "map", TempoMap])
        self.assertEqual(broken(sheet, facts, tempo), [])
        self.assertTrue(all(fact_holds(cues, tempo.points(), fact) for fact in facts))
        found = places_of(cues, tempo.points())
        self.assertEqual({name: plain(places(sheet, tempo)[sheet.moment(name)]) for name in found}, found)

    def check_tree(self, cues, facts, words, told):
        """A tree is one by an own walk; words are tuples (one, word, other) of names."""
        moments, names = moments_of(cues), rows_of(cues)
        numbers = [(moments.index(names[one]), word, moments.index(names[other])) for one, word, other in words]
        word, rows = told
        self.assertEqual([told.__class__, word, rows.__class__], [tuple, "tree", list])
        self.assertTrue(tree_contradicts(cues, facts, numbers, rows), (cues, facts, words, rows))

    def check_why(self, cues, facts, one, word, other):
        """What why tells is right; returns whether it is a map."""
        sheet = Sheet(cues)
        told = why(sheet, one, word, other, facts=facts)
        if told[0] == "map":
            self.check_map(cues, [*facts, ("order", one, word, other)], told)
            number, another = sheet.moment(one), sheet.moment(other)
            self.assertEqual(words_in(order_by(sheet, told[1]))[(number, another)], word)
            self.assertIs(shows_tree(sheet, one, word, other, [], facts=facts), False)
        else:
            self.check_tree(cues, facts, [(one, word, other)], told)
            self.assertIs(shows_tree(sheet, one, word, other, told[1], facts=facts), True)
        return told[0] == "map"

    def check_meets(self, cues, facts):
        sheet = Sheet(cues)
        told = meets(sheet, facts)
        if told[0] == "map":
            self.check_map(cues, facts, told)
            self.assertIs(conflict(sheet, facts), None)
        else:
            self.check_tree(cues, facts, [], told)
            self.assertIs(shows_conflict(sheet, facts, told[1]), True)
            self.check_conflict(cues, facts)
        return told[0] == "map"

    def check_conflict(self, cues, facts):
        """The facts that conflict names are those that are left when one after the other is left out."""
        sheet = Sheet(cues)
        told = conflict(sheet, facts)
        left = list(range(len(facts)))
        for index in range(len(facts)):
            fewer = [other for other in left if other != index]
            if meets(sheet, [facts[other] for other in fewer])[0] == "tree":
                left = fewer
        self.assertEqual(told, left)
        self.assertEqual(meets(sheet, [facts[index] for index in told])[0], "tree")
        for index in told:
            fewer = [facts[other] for other in told if other != index]
            self.assertEqual(meets(sheet, fewer)[0], "map")


class Answers(Evidence, unittest.TestCase):
    """Points 4, 10, 61, 63 and 64."""

    def test_examples_of_the_document(self):
        sheet = Sheet(CUES)
        facts = [("apart", "seconds", "c", "b", 1)]
        self.assertEqual([possible(sheet, "start", "c"), possible(sheet, "a", "c"),
                          possible(sheet, "a", "c", facts=facts)],
                         [["before"], ["before", "same", "after"], ["same"]])
        told = why(sheet, "start", "after", "c")
        self.assertEqual([told[0], shows_tree(sheet, "start", "after", "c", told[1]),
                          shows_tree(sheet, "a", "after", "c", told[1])], ["tree", True, False])
        self.assertEqual([meets(sheet, FACTS)[0], conflict(sheet, FACTS), conflict(sheet, FACTS[1:])],
                         ["tree", [0], None])

    def test_small_sheets(self):
        seen = []
        for cues, facts in small_sheets(61, 60, 4):
            told = [words_in(order) for order in sheet_orders(cues, facts)]
            sheet = Sheet(cues)
            for one in names_of(cues):
                for other in names_of(cues):
                    pair = (sheet.moment(one), sheet.moment(other))
                    expected = [word for word in WORDS if any(words[pair] == word for words in told)]
                    self.assertEqual(possible(sheet, one, other, facts=facts), expected)
                    for word in WORDS:
                        self.assertEqual(self.check_why(cues, facts, one, word, other), word in expected)
            seen.append(self.check_meets(cues, facts))
            self.assertEqual(seen[-1], len(told) > 0)
        self.assertTrue(15 < seen.count(True) < 45)

    def test_facts_that_need_cases(self):
        sheet = Sheet(CUES)
        told = meets(sheet, CROSSED)
        self.assertGreater(len(told[1]), 1)
        self.assertEqual([row[0] for row in told[1]].count("case"), (len(told[1]) - 1) // 3)
        self.assertIs(self.check_meets(CUES, CROSSED), False)
        self.assertEqual(conflict(sheet, CROSSED), [0, 1])
        self.assertEqual(conflict(sheet, [*CROSSED, CROSSED[0]]), [1, 2])
        self.assertEqual(possible(sheet, "a", "c", facts=CROSSED[:1]), ["before"])
        self.assertEqual(possible(sheet, "a", "c", facts=CROSSED[1:]), ["after"])

    def test_contradicting_facts(self):
        sheet = Sheet(CUES)
        for facts in [CROSSED, FACTS, [("apart", "beats", "a", "a", 1)], [("between", "seconds", "b", "c", 2, 2)],
                      [("order", "a", "before", "a")], [("order", "b", "after", "b")],
                      [("order", "a", "same", "b")], [("between", "beats", "c", "c", 0, None)],
                      [("order", "a", "before", "c"), ("order", "a", "after", "c")]]:
            self.assertIs(self.check_meets(CUES, facts), False)
            for one, other in [("start", "c"), ("a", "a"), ("c", "a")]:
                self.assertEqual(possible(sheet, one, other, facts=facts), [])
                for word in WORDS:
                    self.assertIs(self.check_why(CUES, facts, one, word, other), False)

    def test_one_cue_and_one_moment(self):
        cues = [*CUES, ("d", "c", "beats", 1), ("e", "start", "seconds", 0)]
        sheet = Sheet(cues)
        for one, other in [("a", "a"), ("start", "start"), ("b", "d"), ("e", "start"), ("start", "e")]:
            self.assertEqual(possible(sheet, one, other), ["same"])
            for word in WORDS:
                self.assertEqual(self.check_why(cues, [], one, word, other), word == "same")

    def test_sheets_without_cues(self):
        sheet = Sheet([])
        self.assertEqual(possible(sheet, "start", "start"), ["same"])
        self.assertIs(self.check_why([], [], "start", "same", "start"), True)
        self.assertIs(self.check_why([], [], "start", "before", "start"), False)
        self.assertIs(self.check_meets([], []), True)
        self.assertIs(self.check_meets([], [("between", "beats", "start", "start", -1, 1)]), True)
        facts = [("order", "start", "same", "start"), ("apart", "seconds", "start", "start", Amount(1, 9))]
        self.assertIs(self.check_meets([], facts), False)
        self.assertEqual(conflict(sheet, facts), [1])

    def test_the_same_exactly_if_the_rows_are_equal(self):
        dealer = Dealer(10)
        for number in range(40):
            cues = dealer.cues(2 + number % 8)
            sheet = Sheet(cues)
            one, other = dealer.dice.choice(names_of(cues)), dealer.dice.choice(names_of(cues))
            self.assertEqual(possible(sheet, one, other) == ["same"], sheet.row(one) == sheet.row(other))

    def test_exchanged_units_turned_time_and_stretched_amounts(self):
        other_unit = {"beats": "seconds", "seconds": "beats"}
        turn = {"before": "after", "after": "before", "same": "same"}
        by = Amount(7, 3)

        def exchanged(fact):
            return fact if fact[0] == "order" else (fact[0], other_unit[fact[1]], *fact[2:])

        def turned(fact):
            if fact[0] == "order":
                return (*fact[:2], turn[fact[2]], fact[3])
            ends = [None if end is None else -end for end in fact[4:]]
            return (*fact[:4], *ends[::-1])

        def stretched(fact):
            if fact[0] == "order" or fact[1] == "seconds":
                return fact
            return (*fact[:4], *[None if end is None else by * end for end in fact[4:]])

        for cues, facts in small_sheets(64, 40, 5):
            sheet = Sheet(cues)
            across = Sheet([(name, parent, other_unit[unit], amount) for name, parent, unit, amount in cues])
            back = Sheet([(name, parent, unit, -amount) for name, parent, unit, amount in cues])
            longer = Sheet([(*cue[:3], by * cue[3] if cue[2] == "beats" else cue[3]) for cue in cues])
            for one in names_of(cues):
                words = possible(sheet, one, cues[-1][0], facts=facts)
                self.assertEqual(possible(across, one, cues[-1][0], facts=list(map(exchanged, facts))), words)
                self.assertEqual(possible(longer, one, cues[-1][0], facts=list(map(stretched, facts))), words)
                told = possible(back, one, cues[-1][0], facts=list(map(turned, facts)))
                self.assertEqual([turn[word] for word in told[::-1]], words)
            told = conflict(sheet, facts)
            self.assertEqual(conflict(across, list(map(exchanged, facts))), told)
            self.assertEqual(conflict(back, list(map(turned, facts))), told)
            self.assertEqual(conflict(longer, list(map(stretched, facts))), told)


class Limits(Evidence, unittest.TestCase):
    """Points 5 and 10: twelve cues, eight moments, six facts, sixty digits."""

    def test_trees_of_many_cases(self):
        for cues, facts in HARD:
            self.assertIs(self.check_meets(cues, facts), False)
            self.assertGreater(len(meets(Sheet(cues), facts)[1]), 9)
            for one, other in [("start", "g"), ("b", "f"), ("e", "c")]:
                self.assertEqual(possible(Sheet(cues), one, other, facts=facts), [])
                for word in WORDS:
                    self.assertIs(self.check_why(cues, facts, one, word, other), False)
                    for index in range(6):
                        self.check_why(cues, facts[:index] + facts[index + 1:], one, word, other)

    def test_sheets_with_many_orders(self):
        names = names_of(MANY)
        for one in names:
            for other in names:
                words = possible(Sheet(MANY), one, other)
                for word in WORDS:
                    self.assertEqual(self.check_why(MANY, [], one, word, other), word in words)

    def test_what_a_map_shows_is_possible(self):
        dealer = Dealer(65)
        for number in range(20):
            cues, points = dealer.cues(12), dealer.points(number % 10)
            tempo = TempoMap(points)
            facts = [dealer.fact(cues) for _ in range(40)]
            facts = [fact for fact in facts if fact_holds(cues, points, fact)][:6]
            sheet = Sheet(cues)
            told = words_in(order_by(sheet, tempo))
            for _ in range(6):
                one, other = dealer.dice.choice(names_of(cues)), dealer.dice.choice(names_of(cues))
                word = told[(sheet.moment(one), sheet.moment(other))]
                words = possible(sheet, one, other, facts=facts)
                self.assertIn(word, words)
                for each in WORDS:
                    self.assertEqual(self.check_why(cues, facts, one, each, other), each in words)
            self.assertIs(self.check_meets(cues, facts), True)

    def test_long_amounts(self):
        cues = [("a", "start", "beats", sixty(1)), ("b", "a", "seconds", -sixty(2)), ("c", "b", "beats", sixty(3)),
                ("d", "c", "seconds", sixty(4)), ("e", "d", "beats", -sixty(5)), ("f", "e", "seconds", sixty(6)),
                ("g", "f", "beats", sixty(7)), ("h", "g", "beats", -sixty(7)), ("i", "start", "beats", 0)]
        near = Amount(1, 10 ** 60 - 1)
        facts = [("between", "beats", "b", "c", sixty(3) - near, sixty(3) + near), ("order", "b", "before", "start"),
                 ("between", "seconds", "start", "a", sixty(8), sixty(8) + near),
                 ("between", "seconds", "c", "e", sixty(9), None), ("apart", "beats", "f", "c", near)]
        self.assertIs(self.check_meets(cues, facts), False)
        for count in range(5):
            for one, other in [("start", "g"), ("c", "f"), ("b", "h")]:
                for word in WORDS:
                    self.check_why(cues, facts[:count], one, word, other)

    def test_a_tiny_difference_counts(self):
        high = 10 ** 60 - 1
        cues = [("a", "start", "beats", Amount(1, high)), ("b", "start", "beats", Amount(1, high - 1))]
        self.assertEqual(possible(Sheet(cues), "a", "b"), ["before"])
        low = ("between", "seconds", "start", "a", 5, None)
        for end, expected in [(Amount(5), False), (Amount(5) + Amount(1, high), True)]:
            self.assertIs(self.check_meets(cues, [low, ("between", "seconds", "start", "b", None, end)]), expected)


class Trees(Evidence, unittest.TestCase):
    """Points 7, 62, 63 and 64: which values are trees."""

    def trees(self):
        """Cues, facts, words and the rows of a tree for each of several contradictions."""
        found = [(CUES, CROSSED, [], meets(Sheet(CUES), CROSSED)[1])]
        found.append((CUES, [], [("c", "before", "start")], why(Sheet(CUES), "c", "before", "start")[1]))
        found.append((CUES, CROSSED[:1], [("c", "same", "a")],
                      why(Sheet(CUES), "c", "same", "a", facts=CROSSED[:1])[1]))
        found.append((CUES, FACTS[1:2], [("a", "after", "c")],
                      why(Sheet(CUES), "a", "after", "c", facts=FACTS[1:2])[1]))
        found = found + [(cues, facts, [], meets(Sheet(cues), facts)[1]) for cues, facts in HARD]
        self.assertTrue(all(self.both(*told) for told in found))
        return found

    def both(self, cues, facts, words, rows):
        """What the program and an own walk say of rows, which is the same."""
        sheet = Sheet(cues)
        if words:
            told = shows_tree(sheet, *words[0], rows, facts=facts)
        else:
            told = shows_conflict(sheet, facts, rows)
        numbers = [(sheet.moment(one), word, sheet.moment(other)) for one, word, other in words]
        self.assertIs(told, tree_contradicts(cues, facts, numbers, rows), rows)
        return told

    def test_rows_out_and_rows_twice(self):
        for cues, facts, words, rows in self.trees()[:7]:
            for index in range(len(rows)):
                self.assertIs(self.both(cues, facts, words, rows[:index] + rows[index + 1:]), False)
                self.assertIs(self.both(cues, facts, words, rows[:index] + [rows[index]] + rows[index:]), False)
                self.assertIs(self.both(cues, facts, words, [*rows, rows[index]]), False)
                self.assertIs(self.both(cues, facts, words, [rows[index], *rows]), False)
            self.assertEqual(self.both(cues, facts, words, rows[::-1]), len(rows) == 1)

    def test_changed_cases(self):
        for cues, facts, words, rows in self.trees()[:7]:
            count = len(moments_of(cues))
            seen = []
            for index, row in enumerate(rows):
                if row[0] != "case":
                    continue
                word, one, other, before, same, after = row
                for changed in [
                        (word, other, one, before, same, after), (word, one, one, before, same, after),
                        (word, one, other, after, same, before), (word, one, other, same, before, after),
                        (word, one, other, before, before, after), (word, one, other, before, same, same),
                        (word, one, other, index, same, after), (word, one, other, 0, same, after),
                        (word, one, other, before, same, len(rows)), (word, one, other, before, same, -1),
                        (word, -1, other, before, same, after), (word, one, count, before, same, after),
                        (word, one, other, before, same), (*row, after), ("ring", *row[1:]), ("Case", *row[1:]),
                        (True, *row[1:]), list(row), row[1:], (word, one, other, str(before), same, after),
                        (word, str(one), other, before, same, after), (word, one, None, before, same, after)]:
                    told = self.both(cues, facts, words, rows[:index] + [changed] + rows[index + 1:])
                    seen.append(told)
                # Turned about twice, a case is the same one.
                changed = (word, other, one, after, same, before)
                self.assertIs(self.both(cues, facts, words, rows[:index] + [changed] + rows[index + 1:]), True)
            self.assertNotIn(True, seen)

    def test_changed_rings(self):
        for cues, facts, words, rows in self.trees()[:5]:
            for index, row in enumerate(rows):
                if row[0] != "ring":
                    continue
                _, unit, steps = row
                other = "beats" if unit == "seconds" else "seconds"
                rings = [("ring", other, steps), ("ring", unit, tuple(steps)), ("ring", unit, lists(steps)),
                         ("ring", unit, []), ("ring", unit), ("ring", unit, steps, 0), ["ring", unit, steps],
                         ("Ring", unit, steps), ("ring", None, steps), ("ring", unit, None),
                         ("ring", unit, steps[::-1]), ("ring", unit, steps * 5)]
                for place, (kind, one, two) in enumerate(steps):
                    before, behind = steps[:place], steps[place + 1:]
                    steppings = [(kind, two, one), (kind, one, one), (kind, one, 7 - two), (kind, one, 8),
                                 (kind, -1, two),
                                 (kind, one), (one, two), (kind, one, two, 0), [kind, one, two], ("before", one, two)]
                    steppings = steppings + [(each, one, two) for each in ["shift", "fact", "later", "same"]]
                    rings = rings + [("ring", unit, before + behind),
                                     ("ring", unit, before + [steps[place]] + steps[place:])]
                    rings = rings + [("ring", unit, before + [step] + behind) for step in steppings]
                    rings.append(("ring", unit, steps[place:] + before))
                told = [self.both(cues, facts, words, rows[:index] + [ring] + rows[index + 1:]) for ring in rings]
                # Turned about, a ring of two steps only begins elsewhere.
                self.assertEqual(told[1:11], [False] * 9 + [len(steps) < 3])
                self.assertIs(told[-1], True)

    def test_true_and_false_are_not_numbers(self):
        cues = [("a", "start", "beats", 1), ("b", "start", "seconds", 1)]
        facts = [("between", "beats", "a", "start", 0, None)]
        ring = [("shift", 0, 1), ("fact", 1, 0)]
        self.assertIs(self.both(cues, facts, [], [("ring", "beats", ring)]), True)
        for steps in [[("shift", False, 1), ring[1]], [("shift", 0, True), ring[1]], [ring[0], ("fact", True, 0)],
                      [ring[0], ("fact", 1, False)]]:
            self.assertIs(self.both(cues, facts, [], [("ring", "beats", steps)]), False)
        rows = [("case", 0, 1, 1, 2, 3)] + [("ring", "beats", ring)] * 3
        self.assertIs(self.both(cues, facts, [], rows), True)
        for row in [("case", False, 1, 1, 2, 3), ("case", 0, True, 1, 2, 3), ("case", 0, 1, True, 2, 3)]:
            self.assertIs(self.both(cues, facts, [], [row, *rows[1:]]), False)

    def test_what_is_right_in_a_tree(self):
        cues = [("a", "start", "beats", 1), ("b", "start", "seconds", 1), ("c", "start", "beats", 2)]
        for facts, words, row, expected in [
                ([], [("a", "after", "b")], ("ring", "beats", [("later", 2, 1), ("later", 1, 2)]), False),
                ([("order", "a", "before", "b")], [("b", "before", "a")],
                 ("ring", "beats", [("later", 2, 1), ("later", 1, 2)]), True),
                ([("order", "a", "before", "b")], [("a", "after", "b")],
                 ("ring", "seconds", [("later", 2, 1), ("later", 1, 2)]), True),
                ([("order", "b", "same", "a")], [("a", "after", "b")],
                 ("ring", "seconds", [("later", 2, 1), ("same", 1, 2)]), True),
                ([("order", "b", "same", "a")], [("a", "same", "b")],
                 ("ring", "seconds", [("same", 2, 1), ("same", 1, 2)]), False),
                # By their line in beats, the moment 3 comes later than the moment 1 in both units.
                ([("order", "c", "same", "a")], [], ("ring", "seconds", [("later", 1, 3), ("same", 3, 1)]), True),
                ([], [("c", "same", "a")], ("ring", "seconds", [("later", 1, 3), ("same", 3, 1)]), True),
                ([], [("c", "before", "a")], ("ring", "seconds", [("later", 1, 3), ("later", 3, 1)]), True),
                ([], [("c", "before", "b")], ("ring", "seconds", [("later", 1, 3), ("later", 3, 1)]), False),
                ([], [("c", "before", "c")], ("ring", "seconds", [("later", 3, 3)]), True),
                ([("order", "c", "after", "c")], [], ("ring", "beats", [("later", 3, 3)]), True),
                ([], [], ("ring", "beats", [("later", 3, 3)]), False),
                ([("apart", "beats", "c", "a", 0)], [], ("ring", "beats", [("fact", 3, 1), ("shift", 1, 3)]), True),
                ([("apart", "beats", "c", "a", 0)], [], ("ring", "seconds", [("later", 1, 3), ("fact", 3, 1)]), False),
                ([("apart", "seconds", "c", "a", 0)], [], ("ring", "seconds", [("later", 1, 3), ("fact", 3, 1)]), True),
                ([("apart", "seconds", "c", "a", 0)], [("c", "same", "c")],
                 ("ring", "seconds", [("same", 3, 3), ("fact", 3, 1), ("later", 1, 3)]), True),
                ([("apart", "seconds", "c", "a", 0)], [],
                 ("ring", "seconds", [("same", 3, 3), ("fact", 3, 1), ("later", 1, 3)]), False),
                ([("apart", "seconds", "c", "a", 0)], [],
                 ("ring", "seconds", [("shift", 3, 3), ("fact", 3, 1), ("later", 1, 3)]), True)]:
            self.assertIs(self.both(cues, facts, words, [row]), expected, row)
            if not expected:
                # Cases make no difference to a ring that needs none of them.
                self.assertIs(self.both(cues, facts, words, [("case", 0, 1, 1, 2, 3), row, row, row]), False)

    def test_cases_above_count_and_others_do_not(self):
        cues = [("a", "start", "beats", 1), ("b", "start", "seconds", 1)]
        facts = [("between", "beats", "a", "b", 0, None), ("between", "seconds", "b", "a", 0, None)]
        rows = [("case", 1, 2, 1, 2, 3),
                ("ring", "seconds", [("later", 1, 2), ("fact", 2, 1)]),
                ("ring", "beats", [("same", 2, 1), ("fact", 1, 2)]),
                ("ring", "beats", [("later", 2, 1), ("fact", 1, 2)])]
        self.assertIs(self.both(cues, facts, [], rows), True)
        for order in [(2, 1, 3), (3, 2, 1), (1, 3, 2)]:
            told = [("case", 1, 2, *order), *rows[1:]]
            self.assertIs(self.both(cues, facts, [], told), False)
            self.assertIs(self.both(cues, facts, [], [rows[0], *[rows[index] for index in order]]), False)
        deep = [("case", 0, 1, 1, 2, 3), ("case", 0, 2, 4, 5, 6), ("ring", "beats", [("same", 0, 1), ("shift", 1, 0)])]
        self.assertIs(self.both(cues, [], [], deep), False)

    def test_cases_that_no_ring_needs(self):
        cues = [("a", "start", "beats", 1), ("b", "start", "seconds", 1)]
        facts = [("between", "beats", "a", "start", 0, None)]
        ring = ("ring", "beats", [("shift", 0, 1), ("fact", 1, 0)])
        for rows, expected in [
                ([("case", 0, 2, 1, 2, 3), ring, ring, ring], True), ([("case", 2, 0, 3, 1, 2), ring, ring, ring], True),
                ([("case", 0, 3, 1, 2, 3), ring, ring, ring], False), ([("case", 3, 0, 1, 2, 3), ring, ring, ring], False),
                ([("case", -1, 2, 1, 2, 3), ring, ring, ring], False), ([("case", 0, 4, 1, 2, 3), ring, ring, ring], False),
                ([("case", 1, 1, 1, 2, 3), ring, ring, ring], False), ([("case", 0, 2, 1, 1, 1), ring], False),
                ([("case", 0, 2, 1, 2, 2), ring, ring], False), ([("case", 0, 2, 1, 2, 4), ring, ring, ring], False),
                ([("case", 0, 2, 0, 1, 2), ring, ring], False),
                # Two cases name the same row.
                ([("case", 0, 2, 1, 2, 3), ("case", 0, 1, 2, 3, 4), ring, ring, ring], False),
                ([("case", 0, 2, 1, 2, 3), ("case", 0, 1, 4, 5, 6), ring, ring, ring, ring, ring], True),
                ([("case", 0, 2, 1, 2, 3), ("case", 0, 1, 4, 5, 3), ring, ring, ring, ring], False),
                ([("case", 0, 2, 3, 2, 1), ring, ring, ("case", 0, 1, 4, 5, 6), ring, ring, ring], True),
                ([("case", 0, 2, 3, 2, 1), ring, ring, ("case", 0, 1, 2, 5, 4), ring, ring], False)]:
            self.assertIs(self.both(cues, facts, [], rows), expected, rows)

    def test_deep_trees(self):
        cues = [("a", "start", "beats", 1), ("b", "start", "seconds", 1)]
        facts = [("between", "beats", "a", "start", 0, None)]
        ring = ("ring", "beats", [("shift", 0, 1), ("fact", 1, 0)])
        rows = []
        for depth in range(300):
            rows.extend([("case", depth % 2, 2, 3 * depth + 1, 3 * depth + 2, 3 * depth + 3), ring, ring])
        rows.append(ring)
        self.assertIs(shows_conflict(Sheet(cues), facts, rows), True)
        self.assertIs(shows_conflict(Sheet(cues), facts, rows[:-1]), False)
        self.assertIs(shows_conflict(Sheet(cues), facts[:0], rows), False)

    def test_other_values(self):
        sheet = Sheet(CUES)
        good = why(sheet, "start", "after", "c")[1]
        for value in all_values():
            for rows in [value, [value], [*good, value], [value, *good], [("ring", value, value)],
                         [("ring", "beats", value)],
                         [("ring", "beats", [value])], [("ring", value, good[0][2])], [(value, "beats", good[0][2])],
                         [("case", value, value, value, value, value)],
                         [("case", 0, 1, value, value, value), *good * 3],
                         [("case", 0, value, 1, 2, 3), *good * 3]]:
                expected = rows == [("case", 0, 2, 1, 2, 3), *good * 3] or rows == [("case", 0, 1, 1, 2, 3), *good * 3]
                expected = expected and value.__class__ is int
                self.assertIs(shows_tree(sheet, "start", "after", "c", rows), expected, rows)
                self.assertIs(shows_conflict(sheet, [], rows), False)
        for rows in [tuple(good), lists(good), tuples(good), [lists(good[0])], [], ()]:
            self.assertIs(shows_tree(sheet, "start", "after", "c", rows), False)


class Passed(Checks, unittest.TestCase):
    """Points 7, 8 and 9: what is passed, what is raised, and in which order."""

    def test_first_wrong_argument(self):
        sheet, one, other, word, facts, item = ["sheet"], ["one"], ("other",), "Before", {"no": "list"}, ["no", "fact"]
        unknown = ["no name"]
        lasts = [(facts, InvalidPart, "value", facts), ([item], InvalidFact, "value", item),
                 ([("order", unknown, "same", "x"), item], UnknownCue, "label", unknown),
                 ([("order", "a", "same", unknown), item], UnknownCue, "label", unknown)]
        good = Sheet(CUES)
        for last in lasts:
            self.check_turns(lambda a, b, c, d: possible(a, b, c, facts=d), [good, "a", "b", []],
                             [(sheet, InvalidSheet, "value", sheet), (one, UnknownCue, "label", one),
                              (other, UnknownCue, "label", other), last])
            for call in [lambda a, b, c, d, e: why(a, b, c, d, facts=e),
                         lambda a, b, c, d, e: shows_tree(a, b, c, d, None, facts=e)]:
                self.check_turns(call, [good, "a", "same", "b", []],
                                 [(sheet, InvalidSheet, "value", sheet), (one, UnknownCue, "label", one),
                                  (word, InvalidWord, "value", word), (other, UnknownCue, "label", other), last])
            for call in [meets, conflict, lambda a, b: shows_conflict(a, b, None)]:
                self.check_turns(call, [good, []], [(sheet, InvalidSheet, "value", sheet), last])

    def test_wrong_values(self):
        sheet = Sheet(CUES)
        for value in values_without(Sheet):
            for call in [possible, why, shows_tree]:
                rest = ["a", "b"] if call is possible else ["a", "same", "b"] if call is why else ["a", "same", "b", []]
                self.check_raises(InvalidSheet, "value", value, call, value, *rest)
            for call in [meets, conflict]:
                self.check_raises(InvalidSheet, "value", value, call, value, [])
            self.check_raises(InvalidSheet, "value", value, shows_conflict, value, [], [])
        for value in all_values():
            if value.__class__ is not str or value not in sheet:
                self.check_raises(UnknownCue, "label", value, possible, sheet, value, "a")
                self.check_raises(UnknownCue, "label", value, possible, sheet, "a", value)
                self.check_raises(UnknownCue, "label", value, why, sheet, value, "no word", None)
                self.check_raises(UnknownCue, "label", value, why, sheet, "start", "same", value)
                self.check_raises(UnknownCue, "label", value, shows_tree, sheet, value, "before", "a", [])
            self.check_raises(InvalidWord, "value", value, why, sheet, "a", value, "b")
            self.check_raises(InvalidWord, "value", value, shows_tree, sheet, "a", value, "b", [])
            if not isinstance(value, (list, tuple)):
                for call in [meets, conflict]:
                    self.check_raises(InvalidPart, "value", value, call, sheet, value)
                self.check_raises(InvalidPart, "value", value, possible, sheet, "a", "b", facts=value)

    def test_lists_tuples_integers_and_names(self):
        sheet, other = Sheet(CUES), Sheet(lists(CUES))
        for facts in [lists(CROSSED), tuples(CROSSED), tuple(lists(CROSSED)), [list(CROSSED[0]), CROSSED[1]],
                      [(*fact[:4], *[end if end is None else Amount(end) for end in fact[4:]]) for fact in CROSSED]]:
            rows = meets(sheet=sheet, facts=facts)[1]
            self.assertIs(shows_conflict(rows=rows, facts=CROSSED, sheet=other), True)
            self.assertIs(shows_conflict(sheet, facts, rows), True)
            self.assertEqual(conflict(facts=facts, sheet=other), [0, 1])
            self.assertEqual(possible(other=("a"), one="c", sheet=sheet, facts=facts[:1]), ["after"])
            told = why(facts=facts[:1], word="same", other="a", one="c", sheet=other)
            self.assertIs(shows_tree(facts=CROSSED[:1], rows=told[1], word="same", other="a", one="c", sheet=sheet),
                          True)
        for call in [lambda: possible(sheet, "a", "b", []), lambda: why(sheet, "a", "same", "b", []),
                     lambda: shows_tree(sheet, "a", "same", "b", [], [])]:
            with self.assertRaises(TypeError):
                call()

    def test_arguments_stay_and_results_are_new(self):
        sheet, facts = Sheet(CUES), lists(CROSSED)
        kept = copy.deepcopy(plain(facts))
        told = why(sheet, "a", "same", "c", facts=facts)
        rows = meets(sheet, facts)[1]
        again = copy.deepcopy(rows)
        words, indices = possible(sheet, "a", "c"), conflict(sheet, facts)
        self.assertIs(shows_conflict(sheet, facts, rows), True)
        self.assertEqual(rows, again)
        for row in rows:
            if row[0] == "ring":
                row[2].clear()
        for told in [rows, words, indices]:
            told.clear()
        self.assertEqual(meets(sheet, facts)[1], again)
        self.assertEqual([possible(sheet, "a", "c"), conflict(sheet, facts)], [list(WORDS), [0, 1]])
        self.assertEqual(plain(facts), kept)

    def test_no_list_stands_twice_in_a_tree(self):
        for cues, facts in HARD:
            first, second = meets(Sheet(cues), facts)[1], meets(Sheet(cues), facts)[1]
            found = [row[2] for row in first + second if row[0] == "ring"]
            self.assertEqual(len({id(item) for item in found}), len(found))


if __name__ == "__main__":
    unittest.main()
