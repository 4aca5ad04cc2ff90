"""Points 21 to 25, and points 3, 5, 7, 8 and 9 as far as they speak of sheets."""

import copy
import unittest

from anytempo.amounts import Amount, amount_text
from anytempo.errors import (
    Duplicate, InvalidAmount, InvalidCue, InvalidInteger, InvalidName, InvalidPart, InvalidUnit, TooMany, UnknownCue,
)
from anytempo.sheets import Sheet
from reckoned import Dealer, UNITS, distance_of, moments_of, plain, rows_of, shortened
from values import Checks, all_values, amounts, any_values, lists, sixty, strings, tuples, values_without

CUES = [("a", "start", "beats", 2), ("b", "a", "seconds", Amount(1, 2)), ("c", "b", "beats", -1),
        ("d", "a", "beats", -2)]


def dealt(count=60):
    """Sheets of every size, with their cues."""
    dealer = Dealer(21)
    return [dealer.cues(number % 13) for number in range(count)]


def names_of(cues):
    return ["start", *[cue[0] for cue in cues]]


class Told(Checks, unittest.TestCase):
    """Point 22."""

    def test_names_and_length(self):
        sheet = Sheet(CUES)
        self.assertEqual([sheet.names(), len(sheet)], [["a", "b", "c", "d"], 4])
        self.assertEqual([Sheet([]).names(), len(Sheet([])), Sheet([]).cues()], [[], 0, []])

    def test_cue(self):
        sheet = Sheet(CUES)
        for name, parent, unit, amount in CUES:
            told = sheet.cue(name)
            self.assertIsInstance(told, tuple)
            self.assertIsInstance(told[2], Amount)
            self.assertEqual(plain(told), plain((parent, unit, Amount(1) * amount)))
        self.assertEqual(sheet.cue(name="a"), ("start", "beats", Amount(2)))

    def test_cues(self):
        for cues in dealt():
            sheet = Sheet(cues)
            self.assertEqual(sheet.cues(), cues)
            self.assertTrue(all(isinstance(cue, tuple) and isinstance(cue[3], Amount) for cue in sheet.cues()))
            self.assertEqual(Sheet(sheet.cues()), sheet)
            self.assertEqual(len(sheet), len(cues))

    def test_children(self):
        sheet = Sheet(CUES)
        told = {name: sheet.children(name) for name in ["start", "a", "b", "c", "d"]}
        self.assertEqual(told, {"start": ["a"], "a": ["b", "d"], "b": ["c"], "c": [], "d": []})
        self.assertEqual(sheet.children(name="a"), ["b", "d"])
        self.assertEqual(Sheet([]).children("start"), [])

    def test_in(self):
        sheet = Sheet(CUES)
        for name in ["start", "a", "b", "c", "d"]:
            self.assertIs(name in sheet, True)
        for value in values_without(str) + ["e", "A", "", "beats", "a ", "Start", ["a"], ("a",), {"a": "a"}, sheet]:
            self.assertIs(value in sheet, False)
        self.assertIs("start" in Sheet([]), True)
        self.assertIs("a" in Sheet([]), False)

    def test_unknown_names(self):
        sheet = Sheet(CUES)
        for value in values_without(str) + ["e", "", "A", "starts", ["a"], ("a",)]:
            for call in [sheet.cue, sheet.children, sheet.row, sheet.moment]:
                self.check_raises(UnknownCue, "label", value, call, value)
                self.check_raises(UnknownCue, "label", value, call, name=value)
            for call in [sheet.between, sheet.same]:
                self.check_raises(UnknownCue, "label", value, call, value, "a")
                self.check_raises(UnknownCue, "label", value, call, "start", value)
                self.check_raises(UnknownCue, "label", value, call, value, ["x"])
        self.check_raises(UnknownCue, "label", "start", sheet.cue, "start")

    def test_equality(self):
        sheet = Sheet(CUES)
        self.assertTrue(sheet == Sheet(CUES))
        self.assertFalse(sheet != Sheet(CUES))
        self.assertEqual(Sheet([]), Sheet(()))
        self.assertEqual(Sheet([("a", "start", "beats", Amount(4, 2))]), Sheet([("a", "start", "beats", 2)]))
        others = [CUES[:3], CUES[:2] + [CUES[3], CUES[2]], [*CUES[:3], ("d", "start", "beats", 0)],
                  [("a", "start", "seconds", 2), *CUES[1:]], [("a", "start", "beats", 3), *CUES[1:]],
                  [*CUES[:3], ("e", "a", "beats", -2)]]
        for cues in others:
            self.assertFalse(sheet == Sheet(cues))
            self.assertTrue(sheet != Sheet(cues))

    def test_only_sheets_are_equal(self):
        for value in values_without(Sheet) + [CUES, Sheet(CUES).cues()]:
            self.assertIs(Sheet(CUES) == value, False)
            self.assertIs(value == Sheet(CUES), False)
            self.assertIs(Sheet([]) == value, False)


class Making(Checks, unittest.TestCase):
    """Point 21, and points 5, 7, 8 and 9."""

    def test_example_of_the_document(self):
        sheet = Sheet(CUES)
        told = [sheet.same("d", "start"), len(sheet.row("c")), amount_text(sheet.row("c")[1][1])]
        self.assertEqual(told, [True, 3, "1/2"])
        between = sheet.between("b", "d")
        self.assertEqual([len(between), between[0][0], amount_text(between[1][1])], [2, "seconds", "-2"])
        told = [len(sheet.moments()), sheet.moment("c"), sheet.names_at(0), sheet.names_at(1)]
        self.assertEqual(told, [4, 3, ["start", "d"], ["a"]])
        told = [sheet.line("beats", 0), sheet.line("beats", 2), sheet.distance("beats", 1, 0) == Amount(-2),
                sheet.distance("seconds", 0, 3)]
        self.assertEqual(told, [[0, 1], [3, 2], True, None])

    def test_lists_and_tuples(self):
        for cues in [lists(CUES), tuples(CUES), tuple(lists(cue) for cue in CUES)]:
            self.assertEqual(Sheet(cues), Sheet(CUES))
            self.assertTrue(all(isinstance(cue, tuple) for cue in Sheet(cues).cues()))
        self.assertEqual(Sheet(cues=CUES), Sheet(CUES))

    def test_integers_for_amounts(self):
        sheet = Sheet([("a", "start", "beats", 0), ("b", "a", "seconds", -3)])
        self.assertEqual([sheet.cue("a")[2], sheet.cue("b")[2]], [Amount(0), Amount(-3)])

    def test_what_was_passed_is_copied_and_not_changed(self):
        cues = lists(CUES)
        kept = copy.deepcopy(cues)
        sheet = Sheet(cues)
        self.assertEqual(cues, kept)
        for cue in cues:
            cue[0], cue[1], cue[2], cue[3] = "x", "y", "seconds", 9
        del cues[1:]
        self.assertEqual(sheet, Sheet(CUES))
        self.assertEqual([sheet.names(), sheet.row("d"), len(sheet.moments())], [["a", "b", "c", "d"], [], 4])

    def test_what_was_told_may_be_changed(self):
        sheet = Sheet(CUES)
        calls = [sheet.names, sheet.cues, lambda: sheet.children("a"), lambda: sheet.row("c"),
                 lambda: sheet.row("start"), lambda: sheet.between("a", "c"), lambda: sheet.between("start", "c"),
                 lambda: sheet.between("c", "start"), sheet.moments, lambda: sheet.names_at(0),
                 lambda: sheet.line("beats", 0)]
        for call in calls:
            kept = copy.deepcopy(call())
            told = call()
            self.assertIsNot(told, call())
            for item in told:
                if isinstance(item, list):
                    item.append("x")
            told.append("x")
            told.reverse()
            self.assertEqual(call(), kept)
        told = sheet.moments()
        self.assertEqual(len({id(row) for row in told}), len(told))
        self.assertEqual(sheet, Sheet(CUES))

    def test_wrong_lists_of_cues(self):
        for value in values_without(list, tuple) + [{"a": CUES[0]}]:
            self.check_raises(InvalidPart, "value", value, Sheet, value)
            self.check_raises(InvalidPart, "value", value, Sheet, cues=value)

    def test_wrong_items(self):
        good = list(CUES[0])
        wrong = [[], (), [1], ("a",), tuple(good[:3]), good[:3], [*good, 2], (*good, 2)]
        for item in values_without(list, tuple) + wrong:
            for cues in [[item], [("z", "start", "beats", 1), item], [item, ("z",), 7], (item,)]:
                self.check_raises(InvalidCue, "value", item, Sheet, cues)

    def check_part(self, kind, field, index, value):
        """A part of a cue that is wrong, at the beginning and behind others, with later parts that are wrong."""
        for before in [[], CUES[:2]]:
            cue = ["z", "start", "beats", 1]
            cue[index] = value
            later = cue[:index + 1] + [["wrong"], ["wrong"], ["wrong"]][:3 - index]
            for item in [tuple(cue), cue, tuple(later), later]:
                self.check_raises(kind, field, value, Sheet, [*before, item])
                self.check_raises(kind, field, value, Sheet, [*before, item, "no cue"])

    def test_wrong_names(self):
        wrong = ["", "A", "1a", "a b", "a_b", "a" * 9, "a\n", "-", "x" * 100]
        for value in values_without(str) + wrong:
            self.check_part(InvalidName, "value", 0, value)

    def test_names_that_are_taken(self):
        for value in ["start", "a", "b"]:
            for item in [(value, "start", "beats", 1), (value, "?", "?", "?")]:
                self.check_raises(Duplicate, "label", value, Sheet, [*CUES, item])
        self.check_raises(Duplicate, "label", "start", Sheet, [("start", "start", "beats", 1)])

    def test_unknown_parents(self):
        for value in values_without(str) + ["", "z", "y", "START", "start ", ["a"], ("start",)]:
            self.check_part(UnknownCue, "label", 1, value)
        later = [("a", "start", "beats", 1), ("b", "c", "beats", 1), ("c", "a", "beats", 1)]
        self.assertEqual(self.raised(UnknownCue, Sheet, later).label, "c")

    def test_wrong_units(self):
        for value in any_values() + strings() + amounts() + ["Beats", "beats ", 1]:
            self.check_part(InvalidUnit, "value", 2, value)

    def test_wrong_amounts(self):
        for value in any_values() + strings():
            self.check_part(InvalidAmount, "value", 3, value)

    def test_the_first_wrong_cue_counts(self):
        cues = [("a", "start", "beats", 1), ("b", "a", "beats", "x"), ("C", "a", "beats", 1), None]
        self.assertEqual(self.raised(InvalidAmount, Sheet, cues).value, "x")
        self.assertEqual(self.raised(InvalidName, Sheet, [cues[0], cues[2], cues[1]]).value, "C")

    def test_moments_are_counted_behind_all_other_checks(self):
        eight = [("abcdefgh"[index], "start", "beats", index) for index in range(8)]
        self.assertEqual(len(Sheet(eight).moments()), 8)
        nine = [*eight, ("i", "start", "seconds", 1)]
        self.assertEqual(self.raised(TooMany, Sheet, nine).most, 8)
        self.assertEqual(self.raised(TooMany, Sheet, [*nine, ("j", "i", "seconds", -1)]).most, 8)
        for item, kind in [(7, InvalidCue), (("J", "start", "beats", 1), InvalidName),
                           (("i", "start", "beats", 1), Duplicate), (("j", "k", "beats", 1), UnknownCue),
                           (("j", "a", "beat", 1), InvalidUnit),
                           (("j", "a", "beats", None), InvalidAmount)]:
            self.raised(kind, Sheet, [*nine, item])

    def test_twelve_cues_at_eight_moments(self):
        cues = [("abcdefgh"[index], "start" if index == 0 else "abcdefgh"[index - 1], UNITS[index % 2], index + 1)
                for index in range(7)]
        cues = cues + [("h", "g", "beats", -7), ("i", "f", "seconds", 0), ("j", "start", "seconds", 0),
                       ("k", "a", "beats", 0), ("start1", "k", "beats", -1)]
        sheet = Sheet(cues)
        self.assertEqual([len(sheet), len(sheet.moments())], [12, 8])
        self.assertEqual(sheet.names_at(0), ["start", "j", "start1"])
        self.assertEqual(plain(sheet.moments()), moments_of(cues))
        more = Sheet([*cues, ("m", "start", "beats", 0), ("n", "m", "beats", 0)])
        self.assertEqual([len(more), len(more.moments())], [14, 8])


class Rows(Checks, unittest.TestCase):
    """Point 23."""

    def test_rows(self):
        for cues in dealt():
            sheet = Sheet(cues)
            for name, row in rows_of(cues).items():
                self.assertEqual(plain(sheet.row(name)), row)
                for item in sheet.row(name):
                    self.assertIsInstance(item, tuple)
                    self.assertIsInstance(item[1], Amount)

    def test_between(self):
        for cues in dealt():
            sheet = Sheet(cues)
            rows = rows_of(cues)
            for one in names_of(cues):
                for other in names_of(cues):
                    told = plain(sheet.between(one, other))
                    self.assertEqual(told, shortened(told))
                    self.assertEqual(shortened(rows[one] + told), rows[other])
                    self.assertEqual(told == [], rows[one] == rows[other])
                    back = [(unit, -amount) for unit, amount in reversed(plain(sheet.between(other, one)))]
                    self.assertEqual(told, back)
                    self.assertTrue(all(isinstance(item, tuple) for item in sheet.between(one, other)))

    def test_same(self):
        for cues in dealt():
            rows = rows_of(cues)
            for one in names_of(cues):
                for other in names_of(cues):
                    self.assertIs(Sheet(cues).same(one, other), rows[one] == rows[other])

    def test_shifts_that_cancel(self):
        sheet = Sheet([("a", "start", "beats", 1), ("b", "a", "seconds", 1), ("c", "b", "seconds", -1),
                       ("d", "c", "beats", -1), ("e", "d", "seconds", 0), ("f", "b", "beats", 0)])
        self.assertEqual([sheet.row("c"), sheet.row("d"), sheet.row("e")], [[("beats", Amount(1))], [], []])
        self.assertEqual(sheet.row("f"), [("beats", Amount(1)), ("seconds", Amount(1))])
        self.assertEqual([sheet.same("c", "a"), sheet.same("b", "c"), sheet.same("start", "e")], [True, False, True])

    def test_beats_and_seconds_do_not_change_places(self):
        sheet = Sheet([("a", "start", "beats", 1), ("b", "a", "seconds", 1), ("c", "start", "seconds", 1),
                       ("d", "c", "beats", 1)])
        self.assertFalse(sheet.same("b", "d"))
        self.assertEqual(len(sheet.between("b", "d")), 4)

    def test_by_name(self):
        sheet = Sheet(CUES)
        self.assertEqual(sheet.between(other="a", one="start"), [("beats", Amount(2))])
        self.assertIs(sheet.same(other="d", one="start"), True)
        self.assertEqual([sheet.row(name="a"), sheet.moment(name="b")], [[("beats", Amount(2))], 2])

    def test_the_first_unknown_name_counts(self):
        sheet = Sheet(CUES)
        for call in [sheet.between, sheet.same]:
            first, second = ["first"], ["second"]
            self.check_raises(UnknownCue, "label", first, call, first, second)
            self.check_raises(UnknownCue, "label", second, call, other=second, one="a")
            self.check_raises(UnknownCue, "label", first, call, other=second, one=first)

    def test_long_amounts(self):
        cues = [("a", "start", "beats", sixty(1)), ("b", "a", "beats", sixty(2)), ("c", "b", "seconds", sixty(3)),
                ("d", "c", "seconds", -sixty(3)), ("e", "d", "beats", -sixty(1)), ("f", "start", "beats", sixty(2))]
        sheet = Sheet(cues)
        self.assertEqual({name: plain(sheet.row(name)) for name in names_of(cues)}, rows_of(cues))
        self.assertEqual([sheet.same("e", "f"), sheet.same("b", "d"), sheet.same("a", "f")], [True, True, False])


class Moments(Checks, unittest.TestCase):
    """Points 3 and 24."""

    def test_moments(self):
        for cues in dealt():
            sheet = Sheet(cues)
            moments = moments_of(cues)
            self.assertEqual(plain(sheet.moments()), moments)
            for name, row in rows_of(cues).items():
                self.assertEqual(sheet.moment(name), moments.index(row))
            for number in range(len(moments)):
                names = [name for name in names_of(cues) if sheet.moment(name) == number]
                self.assertEqual(sheet.names_at(number), names)
                self.assertEqual(sheet.names_at(number=number), names)

    def test_a_sheet_without_cues(self):
        sheet = Sheet([])
        self.assertEqual([sheet.moments(), sheet.moment("start"), sheet.names_at(0)], [[[]], 0, ["start"]])
        self.assertEqual([sheet.line("beats", 0), sheet.distance("seconds", 0, 0)], [[0], Amount(0)])

    def test_wrong_numbers(self):
        sheet = Sheet(CUES)
        for value in values_without(int) + [True, False, -1, 4, 5, 10 ** 59]:
            self.check_raises(InvalidInteger, "value", value, sheet.names_at, value)


class Lines(Checks, unittest.TestCase):
    """Points 3 and 25."""

    def test_distances(self):
        for cues in dealt():
            sheet = Sheet(cues)
            moments = moments_of(cues)
            for unit in UNITS:
                for one in range(len(moments)):
                    for other in range(len(moments)):
                        told = sheet.distance(unit, one, other)
                        self.assertEqual(plain(told), distance_of(unit, moments[one], moments[other]))
                        self.assertTrue(told is None or isinstance(told, Amount))

    def test_lines(self):
        for cues in dealt():
            sheet = Sheet(cues)
            moments = moments_of(cues)
            for unit in UNITS:
                for number in range(len(moments)):
                    found = {other: distance_of(unit, moments[number], moments[other]) for other in range(len(moments))}
                    on_it = [other for other in found if found[other] is not None]
                    self.assertEqual(sheet.line(unit, number), sorted(on_it, key=found.get))

    def test_a_moment_alone_is_on_a_line_of_each_unit(self):
        sheet = Sheet([("a", "start", "beats", 1), ("b", "a", "seconds", 1)])
        told = [sheet.line("seconds", 0), sheet.line("beats", 2), sheet.line("seconds", 1)]
        self.assertEqual(told, [[0], [2], [1, 2]])

    def test_lines_are_sorted_from_the_most_negative_distance_on(self):
        sheet = Sheet([("a", "start", "beats", 5), ("b", "start", "beats", -7), ("c", "a", "beats", Amount(-11, 2)),
                       ("d", "start", "beats", Amount(14, 3))])
        for number in range(5):
            self.assertEqual(sheet.line("beats", number), [2, 3, 0, 4, 1])

    def test_long_amounts(self):
        sheet = Sheet([("abcd"[index], "start", "seconds", sixty(index)) for index in range(4)])
        expected = sorted(range(1, 5), key=lambda number: plain(sixty(number - 1)))
        self.assertEqual(sheet.line("seconds", 0), [0, *expected])
        self.assertEqual(sheet.distance("seconds", 1, 4), sixty(3) - sixty(0))

    def test_by_name(self):
        sheet = Sheet(CUES)
        self.assertEqual(sheet.distance(other=1, one=0, unit="beats"), Amount(2))
        self.assertEqual(sheet.line(number=1, unit="seconds"), [1, 2])

    def test_wrong_arguments(self):
        sheet = Sheet(CUES)
        for value in any_values() + strings() + amounts() + [0, 1]:
            self.check_raises(InvalidUnit, "value", value, sheet.distance, value, 0, 1)
            self.check_raises(InvalidUnit, "value", value, sheet.line, value, 0)
        for value in values_without(int) + [True, False, -1, 4, 10 ** 59]:
            self.check_raises(InvalidInteger, "value", value, sheet.distance, "beats", value, 1)
            self.check_raises(InvalidInteger, "value", value, sheet.distance, "beats", 1, value)
            self.check_raises(InvalidInteger, "value", value, sheet.line, "seconds", value)

    def test_the_first_wrong_argument_counts(self):
        sheet = Sheet(CUES)
        unit, one, other = ["unit"], ["one"], ["other"]
        wrong = [(unit, InvalidUnit, "value", unit), (one, InvalidInteger, "value", one),
                 (other, InvalidInteger, "value", other)]
        self.check_turns(sheet.distance, ["beats", 0, 1], wrong)
        self.check_turns(sheet.line, ["beats", 0], wrong[:2])


class Unchanged(unittest.TestCase):
    """Point 8: a sheet never changes."""

    def test_no_method_changes_a_sheet(self):
        sheet = Sheet(CUES)
        kept = copy.deepcopy(vars(sheet))
        for name in ["start", "a", "x"]:
            for call in [sheet.cue, sheet.children, sheet.row, sheet.moment]:
                try:
                    call(name)
                except UnknownCue:
                    pass
        for call in [sheet.names, sheet.cues, sheet.moments, lambda: sheet.between("a", "d"), lambda: len(sheet),
                     lambda: sheet.line("beats", 1), lambda: sheet.distance("beats", 0, 1), lambda: "a" in sheet]:
            call()
        self.assertEqual(vars(sheet), kept)

    def test_values_of_every_kind_can_be_asked_for(self):
        for value in all_values():
            self.assertIn(value in Sheet([]), [True, False])


if __name__ == "__main__":
    unittest.main()
