"""Points 91 to 94, and points 5, 7, 8, 9 and 10 as far as they speak of clips."""

import copy
import unittest

from anytempo.allorders import order_list
from anytempo.amounts import Amount
from anytempo.clips import can_meet, fits, lanes, meeting, most_at_once, must_meet
from anytempo.errors import (
    Duplicate, InvalidClip, InvalidFact, InvalidPart, InvalidSheet, Turned, UnknownCue,
)
from anytempo.facts import broken
from anytempo.maps import TempoMap
from anytempo.sheets import Sheet
from hard import HARD, MANY
from reckoned import Dealer, fact_holds, fraction, places_of
from values import Checks, all_values, lists, sixty, tuples, values_without

CUES = [("a", "start", "beats", 2), ("b", "start", "seconds", 3), ("c", "a", "seconds", 1)]
CLIPS = [("one", "start", "a"), ("two", "start", "b"), ("three", "a", "c")]
FALSE = [("order", "a", "same", "start")]


def groups_of(order):
    return {number: index for index, group in enumerate(order) for number in group}


def sounding(sheet, clips, order):
    """For each gap between two groups of an order, the indices of the clips that sound there."""
    groups = groups_of(order)
    return [[index for index, (name, begin, end) in enumerate(clips)
             if groups[sheet.moment(begin)] <= gap < groups[sheet.moment(end)]] for gap in range(len(order) - 1)]


def is_forward(sheet, clip, told):
    return all(groups_of(order)[sheet.moment(clip[1])] < groups_of(order)[sheet.moment(clip[2])] for order in told)


def dealings(items):
    """All ways to deal items to lists, none of them empty."""
    if not items:
        return [[]]
    found = []
    for dealt in dealings(items[:-1]):
        found.append([*dealt, [items[-1]]])
        for index in range(len(dealt)):
            found.append(dealt[:index] + [dealt[index] + [items[-1]]] + dealt[index + 1:])
    return found


class Told(Checks):
    """Checks of what is told of clips; mixed into test cases."""

    def check_at_once(self, cues, clips, facts, tempo):
        """All clips are at once, and the facts hold, by a map."""
        self.assertEqual(tempo.__class__, TempoMap)
        self.assertEqual(broken(Sheet(cues), facts, tempo), [])
        self.assertTrue(all(fact_holds(cues, tempo.points(), fact) for fact in facts))
        found = places_of(cues, tempo.points())
        if clips:
            self.assertLess(max(found[clip[1]][0] for clip in clips), min(found[clip[2]][0] for clip in clips))

    def check_all(self, cues, clips, facts):
        """Everything that is told is what all possible orders tell."""
        sheet = Sheet(cues)
        told = order_list(sheet, facts=facts, most=20000)
        backward = [clip[0] for clip in clips if not is_forward(sheet, clip, told)]
        if backward:
            for call in [can_meet, must_meet, meeting, most_at_once, lanes,
                         lambda *given, **more: fits(*given, [], **more)]:
                self.check_raises(Turned, "label", backward[0], call, sheet, clips, facts=facts)
            return False
        gaps = [sounding(sheet, clips, order) for order in told]
        names = [clip[0] for clip in clips]
        pairs = [(one, other) for one in range(len(clips)) for other in range(one + 1, len(clips))]
        shown = [[pair for pair in pairs if any(set(pair) <= set(gap) for gap in each)] for each in gaps]
        can = [pair for pair in pairs if any(pair in each for each in shown)]
        must = [pair for pair in pairs if all(pair in each for each in shown)]
        self.assertEqual(can_meet(sheet, clips, facts=facts), [(names[one], names[other]) for one, other in can])
        self.assertEqual(must_meet(sheet, clips, facts=facts), [(names[one], names[other]) for one, other in must])
        everything = list(range(len(clips)))
        tempo = meeting(sheet, clips, facts=facts)
        expected = any(gap == everything for each in gaps for gap in each) or (not clips and len(told) > 0)
        self.assertEqual(tempo is not None, expected)
        if tempo is not None:
            self.check_at_once(cues, clips, facts, tempo)
        self.check_most(cues, clips, facts, max([len(gap) for each in gaps for gap in each], default=0))
        self.check_lanes(sheet, clips, facts, [(names[one], names[other]) for one, other in can])
        return True

    def check_most(self, cues, clips, facts, most):
        told = most_at_once(Sheet(cues), clips, facts=facts)
        self.assertEqual([told.__class__, len(told), told[0].__class__], [tuple, 2, list])
        names, tempo = told
        self.assertEqual(len(names), most)
        self.assertEqual(names, [clip[0] for clip in clips if clip[0] in names])
        if most == 0:
            self.assertIs(tempo, None)
        else:
            self.check_at_once(cues, [clip for clip in clips if clip[0] in names], facts, tempo)

    def check_lanes(self, sheet, clips, facts, meetings):
        names = [clip[0] for clip in clips]
        told = lanes(sheet, clips, facts=facts)
        self.assertEqual(sorted(sum(told, [])), sorted(names))
        self.assertTrue(all(lane and lane == [name for name in names if name in lane] for lane in told))
        self.assertEqual([lane[0] for lane in told], [name for name in names if name in [lane[0] for lane in told]])
        self.assertIs(fits(sheet, clips, told, facts=facts), True)
        fitting = []
        for dealt in dealings(names):
            good = not any(one in lane and other in lane for one, other in meetings for lane in dealt)
            if len(names) < 5:
                self.assertIs(fits(sheet, clips, dealt, facts=facts), good)
            fitting.extend([len(dealt)] * good)
        self.assertEqual(len(told), min(fitting))


class Answers(Told, unittest.TestCase):
    """Points 10 and 91 to 94."""

    def test_example_of_the_document(self):
        sheet = Sheet(CUES)
        self.assertEqual([can_meet(sheet, CLIPS), must_meet(sheet, CLIPS), len(most_at_once(sheet, CLIPS)[0]),
                          lanes(sheet, CLIPS)],
                         [[("one", "two"), ("two", "three")], [("one", "two")], 2, [["one", "three"], ["two"]]])

    def test_small_sheets(self):
        dealer = Dealer(91)
        seen = []
        for number in range(250):
            cues = dealer.cues(3 + number % 4)
            facts = dealer.near(cues, number // 2 % 2) + dealer.rigid(cues, number // 4 % 2)
            sheet = Sheet(cues)
            told = order_list(sheet, facts=facts, most=20000)
            names = ["start", *sheet.names()]
            spans = [(one, other) for one in names for other in names]
            if number % 5:
                spans = [span for span in spans if is_forward(sheet, ("x", *span), told)]
            if spans:
                clips = [(f"c{index}", *dealer.dice.choice(spans)) for index in range(number % 6)]
                seen.append((self.check_all(cues, clips, facts), len(told) > 1, len(clips) > 2))
        self.assertGreater(seen.count((True, True, True)), 30)
        self.assertGreater(seen.count((False, True, True)), 5)

    def test_clips_that_touch_are_not_at_once(self):
        cues = [("a", "start", "beats", 1), ("b", "a", "beats", 1), ("c", "b", "seconds", 1), ("d", "b", "seconds", 0)]
        clips = [("one", "start", "a"), ("two", "a", "b"), ("three", "b", "c"), ("four", "d", "c"),
                 ("five", "start", "d")]
        sheet = Sheet(cues)
        self.assertEqual(can_meet(sheet, clips), [("one", "five"), ("two", "five"), ("three", "four")])
        self.assertEqual(must_meet(sheet, clips), can_meet(sheet, clips))
        self.assertEqual(lanes(sheet, clips), [["one", "two", "three"], ["four", "five"]])
        self.assertTrue(self.check_all(cues, clips, []))

    def test_no_clips(self):
        for cues, facts in [(CUES, []), ([], []), (CUES, [("order", "a", "before", "b")])]:
            sheet = Sheet(cues)
            self.assertEqual([can_meet(sheet, [], facts=facts), must_meet(sheet, [], facts=facts)], [[], []])
            self.assertEqual([lanes(sheet, [], facts=facts), most_at_once(sheet, [], facts=facts)], [[], ([], None)])
            self.check_at_once(cues, [], facts, meeting(sheet, [], facts=facts))
            for dealt, expected in [([], True), ((), True), ([[]], True), ([["one"]], False), (None, False)]:
                self.assertIs(fits(sheet, [], dealt, facts=facts), expected)

    def test_contradicting_facts(self):
        clips = [*CLIPS, ("four", "a", "a"), ("five", "c", "start")]
        sheet = Sheet(CUES)
        self.assertEqual(can_meet(sheet, clips, facts=FALSE), [])
        names = [clip[0] for clip in clips]
        self.assertEqual(must_meet(sheet, clips, facts=FALSE),
                         [(one, other) for index, one in enumerate(names) for other in names[index + 1:]])
        self.assertIs(meeting(sheet, clips, facts=FALSE), None)
        self.assertIs(meeting(sheet, [], facts=FALSE), None)
        self.assertEqual(most_at_once(sheet, clips, facts=FALSE), ([], None))
        self.assertEqual(lanes(sheet, clips, facts=FALSE), [names])
        self.assertIs(fits(sheet, clips, [names], facts=FALSE), True)
        for cues, facts in HARD:
            self.assertTrue(self.check_all(cues, [("x", "g", "a"), ("y", "b", "b"), ("z", "start", "c")], facts))

    def test_turned(self):
        sheet = Sheet(CUES)
        for clips, name in [([("x", "a", "b")], "x"), ([("x", "start", "a"), ("y", "b", "a"), ("z", "c", "b")], "y"),
                            ([("x", "a", "a")], "x"), ([("x", "a", "start")], "x"), ([("x", "b", "start")], "x")]:
            for call in [can_meet, must_meet, meeting, most_at_once, lanes]:
                self.assertEqual(self.raised(Turned, call, sheet, clips).label, name)
            self.assertEqual(self.raised(Turned, fits, sheet, clips, None).label, name)
        self.assertEqual(can_meet(sheet, [("x", "a", "b")], facts=[("order", "b", "after", "a")]), [])
        self.assertEqual(self.raised(Turned, lanes, sheet, [("x", "a", "b")],
                                     facts=[("order", "b", "same", "a")]).label, "x")

    def test_exchanged_and_turned(self):
        dealer = Dealer(94)
        other = {"beats": "seconds", "seconds": "beats"}
        for number in range(30):
            cues = dealer.cues(3 + number % 5)
            sheet = Sheet(cues)
            told = order_list(sheet, most=20000)
            names = ["start", *sheet.names()]
            spans = [(one, two) for one in names for two in names if is_forward(sheet, ("x", one, two), told)]
            clips = [(f"c{index}", *dealer.dice.choice(spans)) for index in range(4)]
            back = [(name, end, begin) for name, begin, end in clips]
            across = Sheet([(name, parent, other[unit], amount * 7) for name, parent, unit, amount in cues])
            turned = Sheet([(name, parent, unit, -amount) for name, parent, unit, amount in cues])
            for call in [can_meet, must_meet, lambda *given: len(lanes(*given)),
                         lambda *given: len(most_at_once(*given)[0])]:
                self.assertEqual(call(across, clips), call(sheet, clips))
                self.assertEqual(call(turned, back), call(sheet, clips))


class Limits(Told, unittest.TestCase):
    """Points 5 and 10: eight clips of sheets of eight moments."""

    def test_eight_clips(self):
        dealer = Dealer(95)
        sheets = [(MANY, []), *[(cues, facts[:2]) for cues, facts in HARD[:3]]]
        sheets.append(([("a", "start", "beats", -1), ("b", "start", "seconds", -1), ("c", "start", "beats", -2),
                        ("d", "start", "seconds", -2), ("e", "start", "beats", 1), ("f", "start", "seconds", 1),
                        ("g", "start", "beats", 2)], []))
        for cues, facts in sheets:
            sheet = Sheet(cues)
            told = order_list(sheet, facts=facts, most=20000)
            names = ["start", *sheet.names()]
            spans = [(one, other) for one in names for other in names if is_forward(sheet, ("x", one, other), told)]
            clips = [(f"clip{index}", *dealer.dice.choice(spans)) for index in range(8)]
            self.assertTrue(self.check_all(cues, clips, facts))

    def test_all_at_once(self):
        cues = [("a", "start", "beats", -sixty(1)), ("b", "start", "seconds", -sixty(2)),
                ("c", "start", "beats", -sixty(3)),
                ("d", "start", "seconds", -sixty(4)), ("e", "start", "beats", sixty(5)),
                ("f", "start", "seconds", sixty(6)),
                ("g", "start", "beats", sixty(7))]
        clips = [(f"{begin}{end}", begin, end) for begin in "abcd" for end in "ef"]
        sheet = Sheet(cues)
        names = [clip[0] for clip in clips]
        told = most_at_once(sheet, clips)
        self.assertEqual(told[0], names)
        self.check_at_once(cues, clips, [], told[1])
        self.check_at_once(cues, clips, [], meeting(sheet, clips))
        self.assertEqual(len(must_meet(sheet, clips)), 28)
        self.assertEqual(lanes(sheet, clips), [[name] for name in names])
        facts = [("between", "seconds", "d", "e", None, sixty(4))]
        self.assertEqual(fraction(sixty(4)) > 0, True)
        self.assertEqual(most_at_once(sheet, clips, facts=facts), ([], None))

    def test_lanes_are_as_few_as_the_clips_allow(self):
        cues = [("a", "start", "beats", 3), ("b", "start", "seconds", 3), ("c", "a", "seconds", 1),
                ("d", "b", "beats", 1),
                ("e", "c", "beats", 2), ("f", "d", "seconds", 2)]
        dealer = Dealer(96)
        sheet = Sheet(cues)
        told = order_list(sheet, most=20000)
        names = ["start", *sheet.names()]
        spans = [(one, other) for one in names for other in names if is_forward(sheet, ("x", one, other), told)]
        for _ in range(12):
            clips = [(f"c{index}", *dealer.dice.choice(spans)) for index in range(6)]
            self.assertTrue(self.check_all(cues, clips, []))


class Dealt(Told, unittest.TestCase):
    """Points 7 and 94: which values fit."""

    def test_values(self):
        sheet = Sheet(CUES)
        for dealt, expected in [
                ([["one", "three"], ["two"]], True), ([["two"], ["three", "one"]], True),
                ((("one", "three"), ("two",)), True),
                ([("one", "three"), ["two"]], True), ([["one"], ["two"], ["three"]], True),
                ([[], ["one"], [], ["two"], ["three"]], True), ([["one", "three", "two"]], False),
                ([["one", "two"], ["three"]], False), ([["one"], ["two", "three"]], False), ([["one"], ["two"]], False),
                ([["one", "three"], ["two"], ["two"]], False), ([["one", "three", "three"], ["two"]], False),
                ([["one", "three"], ["two"], ["four"]], False), ([["one", "three"], ["two", None]], False),
                ([["one", "three"], "two"], False), ("one", False), (["one", "two", "three"], False),
                ([[["one"]], ["two"], ["three"]], False), ({0: ["one", "three"], 1: ["two"]}, False)]:
            self.assertIs(fits(sheet, CLIPS, dealt), expected, dealt)
        for value in all_values():
            self.assertIs(fits(sheet, CLIPS, value), False)
            self.assertIs(fits(sheet, CLIPS, [["one", "three"], value]), False)
            self.assertIs(fits(sheet, CLIPS, [["one", "three"], ["two", value]]), False)
            self.assertIs(fits(sheet, CLIPS, [["one", "three"], [value]]), False)
            if value not in ([], ()):
                self.assertIs(fits(sheet, CLIPS, [["one", "three"], ["two"], value]), False)


class Passed(Checks, unittest.TestCase):
    """Points 7, 8, 9 and 91."""

    def calls(self):
        found = [lambda sheet, clips, facts, call=call: call(sheet, clips, facts=facts)
                 for call in [can_meet, must_meet, meeting, most_at_once, lanes]]
        return [*found, lambda sheet, clips, facts: fits(sheet, clips, None, facts=facts)]

    def test_first_wrong_argument(self):
        sheet, item, twice, unknown = ["sheet"], ["no", "clip"], "".join(["on", "e"]), ["no name"]
        clips, facts, fact = {"no": "list"}, {"no": "facts"}, ["no", "fact"]
        backward = "".join(["ba", "ck"])
        wrong_clips = [(clips, InvalidPart, "value", clips), ([*CLIPS, item], InvalidClip, "value", item),
                       ([*CLIPS, (twice, unknown, unknown)], Duplicate, "label", twice),
                       ([*CLIPS, ("four", unknown, "x"), item], UnknownCue, "label", unknown),
                       ([*CLIPS, ("four", "a", unknown), item], UnknownCue, "label", unknown),
                       ([("x", "c", "a"), item], InvalidClip, "value", item)]
        wrong_facts = [(facts, InvalidPart, "value", facts), ([fact], InvalidFact, "value", fact),
                       ([("order", unknown, "same", "x"), fact], UnknownCue, "label", unknown)]
        for call in self.calls():
            for second in wrong_clips:
                for third in wrong_facts:
                    self.check_turns(call, [Sheet(CUES), CLIPS, []],
                                     [(sheet, InvalidSheet, "value", sheet), second, third])
            turned = [*CLIPS, (backward, "c", "a"), ("later", "a", "a")]
            self.check_raises(Turned, "label", backward, call, Sheet(CUES), turned, [])
            for value, kind, field, told in wrong_facts:
                self.check_raises(kind, field, told, call, Sheet(CUES), turned, value)

    def test_wrong_values(self):
        sheet = Sheet(CUES)
        for call in self.calls():
            for value in values_without(Sheet):
                self.check_raises(InvalidSheet, "value", value, call, value, CLIPS, [])
            for value in values_without(list, tuple):
                self.check_raises(InvalidPart, "value", value, call, sheet, value, [])
                self.check_raises(InvalidPart, "value", value, call, sheet, CLIPS, value)
            for value in all_values():
                self.check_raises(InvalidClip, "value", value, call, sheet, [value], [])
                item = (value, "start", "a")
                if value.__class__ is not str or value not in ["a", "start", "beat"]:
                    self.check_raises(InvalidClip, "value", item, call, sheet, [item], [])
                if value.__class__ is not str or value not in sheet:
                    self.check_raises(UnknownCue, "label", value, call, sheet, [("x", value, "a")], [])
                    self.check_raises(UnknownCue, "label", value, call, sheet, [("x", "start", value)], [])
            for item in [("x", "start"), ("x", "start", "a", 0), (), "xab", ("", "start", "a"),
                         ("verylongname", "start", "a")]:
                self.check_raises(InvalidClip, "value", item, call, sheet, [item], [])

    def test_lists_tuples_and_names(self):
        sheet = Sheet(CUES)
        facts = [("between", "beats", "start", "b", None, 9)]
        for clips in [lists(CLIPS), tuples(CLIPS), tuple(lists(CLIPS)), [list(CLIPS[0]), *CLIPS[1:]]]:
            for told in [lists(facts), tuples(facts), [(*facts[0][:5], Amount(9))]]:
                self.assertEqual(can_meet(facts=told, clips=clips, sheet=sheet), [("one", "two"), ("two", "three")])
                self.assertEqual(must_meet(facts=told, clips=clips, sheet=sheet), [("one", "two")])
                self.assertIs(meeting(facts=told, clips=clips, sheet=sheet), None)
                self.assertEqual(len(most_at_once(facts=told, clips=clips, sheet=sheet)[0]), 2)
                self.assertEqual(lanes(facts=told, clips=clips, sheet=sheet), [["one", "three"], ["two"]])
                self.assertIs(fits(facts=told, dealt=[["one", "three"], ["two"]], clips=clips, sheet=sheet), True)
        for call in [can_meet, must_meet, meeting, most_at_once, lanes]:
            with self.assertRaises(TypeError):
                call(sheet, CLIPS, [])

    def test_arguments_stay_and_results_are_new(self):
        sheet, clips, facts = Sheet(CUES), lists(CLIPS), [["order", "a", "before", "b"]]
        kept = copy.deepcopy([clips, facts])
        dealt = lanes(sheet, clips, facts=facts)
        again = copy.deepcopy(dealt)
        fits(sheet, clips, dealt, facts=facts)
        self.assertEqual(dealt, again)
        dealt[0].clear()
        self.assertEqual(lanes(sheet, clips, facts=facts), again)
        found = [item for _ in range(2) for lane in [lanes(sheet, clips)] for item in [lane, *lane]]
        self.assertEqual(len({id(item) for item in found}), len(found))
        for call in [can_meet, must_meet]:
            told = call(sheet, clips, facts=facts)
            length = len(told)
            told.append(1)
            self.assertEqual(len(call(sheet, clips, facts=facts)), length)
        most_at_once(sheet, clips, facts=facts)[0].clear()
        self.assertEqual(len(most_at_once(sheet, clips, facts=facts)[0]), 2)
        self.assertEqual([clips, facts], kept)


if __name__ == "__main__":
    unittest.main()
