"""Points 101 to 104, and points 7, 8, 9 and 10 as far as they speak of edited sheets."""

import copy
import unittest

from anytempo.allorders import order_list
from anytempo.amounts import Amount, amount_text
from anytempo.edits import (
    attached, dropped, exchanged, hung, inserted, is_alike, nudged, renamed, reversed_sheet, stretched, unlike,
)
from anytempo.errors import (
    Duplicate, HasChildren, InvalidAmount, InvalidName, InvalidSheet, InvalidUnit, NoShift, TooMany, UnknownCue,
)
from anytempo.sheets import Sheet
from reckoned import Dealer, UNITS, moments_of, plain, rows_of, shortened
from values import Checks, all_values, sixty, strings, values_without

CUES = [("a", "start", "beats", 2), ("b", "a", "beats", 1), ("c", "b", "seconds", 1)]
# A sheet of eight moments: one more is too many.
FULL = [("abcdefg"[index], "start", "beats", index + 1) for index in range(7)]
OTHER = {"beats": "seconds", "seconds": "beats"}


def told(sheet):
    return plain(sheet.cues())


class Alike(Checks, unittest.TestCase):
    """Point 101."""

    def test_example_of_the_document(self):
        sheet = Sheet(CUES)
        other = hung(sheet, "b", "start")
        self.assertEqual([is_alike(sheet, other), other.cue("b")[0], amount_text(other.cue("b")[2]),
                          unlike(sheet, nudged(sheet, "b", "beats", 1))], [True, "start", "3", ["b", "c"]])

    def test_by_rows(self):
        dealer = Dealer(101)
        seen = []
        for number in range(150):
            one, other = dealer.cues(1 + number % 6), dealer.cues(1 + number // 3 % 6)
            if number % 3:
                other = [cue if dealer.dice.random() < 0.8 else (*cue[:3], cue[3] + 1) for cue in one]
                if len(moments_of(other)) > 8:
                    continue
            first, second = rows_of(one), rows_of(other)
            names = [cue[0] for cue in one] + [cue[0] for cue in other if cue[0] not in first]
            expected = [name for name in names if first.get(name) != second.get(name)]
            self.assertEqual(unlike(Sheet(one), Sheet(other)), expected)
            self.assertIs(is_alike(Sheet(one), Sheet(other)), not expected)
            self.assertIs(is_alike(Sheet(other), Sheet(one)), not expected)
            seen.append(not expected)
        self.assertTrue(10 < seen.count(True) < len(seen) - 10)

    def test_other_order_other_ways_and_other_names(self):
        sheet = Sheet([("a", "start", "beats", 1), ("b", "start", "seconds", 2), ("c", "a", "beats", 3)])
        other = Sheet([("b", "start", "seconds", 2), ("c", "start", "beats", 4), ("a", "c", "beats", -3)])
        self.assertEqual([is_alike(sheet, other), is_alike(other, sheet), unlike(sheet, other)], [True, True, []])
        other = Sheet([("x", "start", "beats", 1), ("b", "start", "beats", 2), ("a", "x", "seconds", 0),
                       ("y", "a", "beats", 0)])
        self.assertEqual([unlike(sheet, other), unlike(other, sheet)], [["b", "c", "x", "y"], ["x", "b", "y", "c"]])
        self.assertEqual([unlike(Sheet([]), sheet), unlike(sheet, Sheet([])), unlike(Sheet([]), Sheet([]))],
                         [["a", "b", "c"], ["a", "b", "c"], []])
        self.assertIs(is_alike(Sheet([]), Sheet([])), True)

    def test_wrong_values(self):
        sheet = Sheet(CUES)
        for value in values_without(Sheet):
            for call in [is_alike, unlike]:
                self.check_raises(InvalidSheet, "value", value, call, value, sheet)
                self.check_raises(InvalidSheet, "value", value, call, sheet, value)
                self.check_raises(InvalidSheet, "value", value, call, value, [])
        self.assertEqual(unlike(other=sheet, one=Sheet([])), ["a", "b", "c"])
        self.assertIs(is_alike(other=sheet, one=sheet), True)
        unlike(Sheet([]), sheet).clear()
        self.assertEqual(unlike(Sheet([]), sheet), ["a", "b", "c"])


class Cues(Checks, unittest.TestCase):
    """Point 102."""

    def test_inserted(self):
        sheet = Sheet(CUES)
        for new in [("d", "start", "seconds", 4), ("start1", "c", "beats", Amount(-1, 2)), ("d", "c", "beats", 0)]:
            self.assertEqual(inserted(sheet, *new), Sheet([*CUES, new]))
        self.assertEqual(inserted(amount=1, unit="beats", parent="a", name="d", sheet=sheet).names(),
                         ["a", "b", "c", "d"])
        self.assertEqual(sheet, Sheet(CUES))
        name, unknown, unit, amount = "".join(["start"]), ["unknown"], "beat", "1"
        for wrong in [Amount(1), "1a", None]:
            self.check_turns(inserted, [sheet, "d", "a", "beats", 1],
                             [(unit, InvalidSheet, "value", unit), (wrong, InvalidName, "value", wrong),
                              (unknown, UnknownCue, "label", unknown), (unit, InvalidUnit, "value", unit),
                              (amount, InvalidAmount, "value", amount)])
        for taken in [name, "".join(["a"]), "c"]:
            self.check_raises(Duplicate, "label", taken, inserted, sheet, taken, unknown, unit, amount)
        self.assertEqual(self.raised(TooMany, inserted, Sheet(FULL), "x", "start", "seconds", 1).most, 8)
        self.assertEqual(inserted(Sheet(FULL), "x", "b", "beats", 2).moment("x"), 4)
        self.check_raises(InvalidAmount, "value", amount, inserted, Sheet(FULL), "x", "start", "seconds", amount)

    def test_dropped(self):
        sheet = Sheet(CUES)
        self.assertEqual(dropped(sheet, "c"), Sheet(CUES[:2]))
        self.assertEqual(dropped(name="b", sheet=Sheet(CUES[:2])), Sheet(CUES[:1]))
        self.assertEqual(dropped(Sheet(CUES[:1]), "a"), Sheet([]))
        branched = Sheet([("a", "start", "beats", 1), ("b", "start", "beats", 2), ("c", "a", "seconds", 1)])
        self.assertEqual(dropped(branched, "b").names(), ["a", "c"])
        for name in ["a", "".join(["b"])]:
            self.check_raises(HasChildren, "label", name, dropped, sheet, name)

    def test_renamed(self):
        sheet = Sheet(CUES)
        self.assertEqual(told(renamed(sheet, "b", "new")),
                         [("a", "start", "beats", 2), ("new", "a", "beats", 1), ("c", "new", "seconds", 1)])
        self.assertEqual(renamed(new="b", name="b", sheet=sheet), sheet)
        self.assertEqual(renamed(renamed(sheet, "a", "z"), "z", "a"), sheet)
        for new in ["start", "a", "c"]:
            self.check_raises(Duplicate, "label", new, renamed, sheet, "b", new)
        for new in values_without(str) + ["", "A", "1a", "a b", "ninechars"]:
            self.check_raises(InvalidName, "value", new, renamed, sheet, "b", new)
            self.check_raises(UnknownCue, "label", "x", renamed, sheet, "x", new)
        self.assertEqual(len(renamed(Sheet(FULL), "a", "z").moments()), 8)

    def test_nudged(self):
        sheet = Sheet(CUES)
        self.assertEqual(told(nudged(sheet, "b", "beats", Amount(1, 2)))[1], ("b", "a", "beats", plain(Amount(3, 2))))
        self.assertEqual(told(nudged(amount=-3, unit="beats", name="b", sheet=sheet))[1], ("b", "a", "beats", -2))
        for unit, amount, expected in [("beats", -1, ("b", "a", "beats", 0)), ("seconds", 0, ("b", "a", "beats", 1)),
                                       ("beats", 0, ("b", "a", "beats", 1))]:
            self.assertEqual(told(nudged(sheet, "b", unit, amount))[1], expected)
        still = Sheet([("a", "start", "beats", 0), ("b", "a", "beats", 1)])
        for unit, amount, expected in [("seconds", 4, ("a", "start", "seconds", 4)),
                                       ("beats", 4, ("a", "start", "beats", 4)),
                                       ("seconds", 0, ("a", "start", "beats", 0)),
                                       ("beats", 0, ("a", "start", "beats", 0))]:
            self.assertEqual(told(nudged(still, "a", unit, amount)), [expected, ("b", "a", "beats", 1)])
        name = "".join(["b"])
        for amount in [1, -1, Amount(1, 9)]:
            self.check_raises(NoShift, "label", name, nudged, sheet, name, "seconds", amount)
        self.assertEqual(self.raised(TooMany, nudged, Sheet([*FULL, ("h", "a", "beats", 1), ("i", "h", "seconds", 0)]),
                                     "i", "seconds", 3).most, 8)

    def test_nudged_rows(self):
        dealer = Dealer(102)
        seen = []
        for number in range(200):
            cues = dealer.cues(1 + number % 7)
            sheet, unit = Sheet(cues), dealer.dice.choice(UNITS)
            amount = dealer.dice.choice([0, 1, -1, dealer.amount()])
            name, parent, former_unit, former = dealer.dice.choice(cues)
            row = shortened([(former_unit, former), (unit, amount)])
            if len(row) > 1:
                self.check_raises(NoShift, "label", name, nudged, sheet, name, unit, amount)
            else:
                cue = (name, parent, *(row[0] if row else (former_unit, 0)))
                expected = [cue if each[0] == name else each for each in plain(cues)]
                if len(moments_of(expected)) > 8:
                    self.assertEqual(self.raised(TooMany, nudged, sheet, name, unit, amount).most, 8)
                else:
                    self.assertEqual(told(nudged(sheet, name, unit, amount)), expected)
            seen.append(len(row))
        self.assertEqual(set(seen), {0, 1, 2})

    def test_hung(self):
        sheet = Sheet([*CUES, ("d", "a", "beats", 0), ("e", "c", "seconds", -1)])
        self.assertEqual(told(hung(sheet, "b", "start"))[1], ("b", "start", "beats", 3))
        self.assertEqual(told(hung(parent="b", name="d", sheet=sheet))[3], ("d", "b", "beats", -1))
        self.assertEqual(told(hung(sheet, "e", "b"))[4], ("e", "b", "seconds", 0))
        self.assertEqual(told(hung(sheet, "e", "start"))[4], ("e", "start", "beats", 3))
        self.assertEqual(told(hung(sheet, "e", "d"))[4], ("e", "d", "beats", 1))
        self.assertEqual(hung(sheet, "e", "c"), sheet)
        name = "".join(["c"])
        for parent in ["start", "a"]:
            self.check_raises(NoShift, "label", name, hung, sheet, name, parent)
        for parent in ["c", "d", "e", "x", ["a"]]:
            self.check_raises(UnknownCue, "label", parent, hung, sheet, "c", parent)
        for parent in ["a", "b"]:
            self.check_raises(UnknownCue, "label", parent, hung, sheet, "a", parent)

    def test_hung_sheets_are_alike(self):
        dealer = Dealer(103)
        seen = 0
        for number in range(60):
            cues = dealer.cues(2 + number % 8)
            sheet, rows = Sheet(cues), rows_of(cues)
            for index, cue in enumerate(cues):
                for parent in ["start", *[each[0] for each in cues[:index]]]:
                    way = shortened([(unit, -amount) for unit, amount in rows[parent][::-1]] + rows[cue[0]])
                    if len(way) > 1:
                        self.check_raises(NoShift, "label", cue[0], hung, sheet, cue[0], parent)
                    else:
                        other = hung(sheet, cue[0], parent)
                        unit, amount = way[0] if way else (cue[2], 0)
                        self.assertEqual(told(other)[index], (cue[0], parent, unit, amount))
                        self.assertEqual([is_alike(sheet, other), other.moments()], [True, sheet.moments()])
                        seen = seen + (parent != cue[1])
        self.assertGreater(seen, 50)

    def test_unknown_cues(self):
        sheet = Sheet(CUES)
        calls = [(dropped, []), (renamed, [None]), (nudged, [None, None]), (hung, [None])]
        for call, rest in calls:
            for value in all_values() + strings() + ["start", "d"]:
                if value.__class__ is not str or value not in sheet.names():
                    self.check_raises(UnknownCue, "label", value, call, sheet, value, *rest)
            for value in values_without(Sheet):
                self.check_raises(InvalidSheet, "value", value, call, value, None, *rest)
        for value in values_without(Sheet):
            self.check_raises(InvalidSheet, "value", value, inserted, value, None, None, None, None)

    def test_first_wrong_argument(self):
        sheet = Sheet([*FULL, ("h", "a", "beats", 0)])
        wrong, unit, amount = ["sheet"], "Seconds", "1"
        self.check_turns(nudged, [sheet, "h", "beats", 1],
                         [(wrong, InvalidSheet, "value", wrong), (wrong, UnknownCue, "label", wrong),
                          (unit, InvalidUnit, "value", unit), (amount, InvalidAmount, "value", amount)])
        self.check_turns(renamed, [sheet, "h", "z"],
                         [(wrong, InvalidSheet, "value", wrong), (wrong, UnknownCue, "label", wrong),
                          (amount, InvalidName, "value", amount)])
        self.check_turns(hung, [sheet, "h", "b"],
                         [(wrong, InvalidSheet, "value", wrong), (wrong, UnknownCue, "label", wrong),
                          (amount, UnknownCue, "label", amount)])
        for value in values_without(str):
            self.check_raises(InvalidUnit, "value", value, nudged, sheet, "h", value, None)
        for value in values_without(int, Amount) + [True, False]:
            self.check_raises(InvalidAmount, "value", value, nudged, sheet, "h", "seconds", value)
        self.assertEqual(self.raised(TooMany, nudged, sheet, "h", "seconds", 1).most, 8)


class Whole(Checks, unittest.TestCase):
    """Points 10 and 103."""

    def test_each_amount(self):
        dealer = Dealer(104)
        for number in range(40):
            cues = dealer.cues(number % 9)
            sheet = Sheet(cues)
            self.assertEqual(exchanged(sheet), Sheet([(*cue[:2], OTHER[cue[2]], cue[3]) for cue in cues]))
            self.assertEqual(reversed_sheet(sheet), Sheet([(*cue[:3], -cue[3]) for cue in cues]))
            for unit in UNITS:
                for by in [1, 3, Amount(2, 7), sixty(3)]:
                    expected = Sheet([(*cue[:3], cue[3] * by if cue[2] == unit else cue[3]) for cue in cues])
                    self.assertEqual(stretched(sheet, unit, by), expected)
                    self.assertEqual(stretched(expected, unit, Amount(1).divided(by)), sheet)
            self.assertEqual([exchanged(exchanged(sheet)), reversed_sheet(reversed_sheet(sheet))], [sheet, sheet])
            self.assertEqual(sheet, Sheet(cues))

    def test_orders_follow(self):
        dealer = Dealer(105)
        for number in range(20):
            sheet = Sheet(dealer.cues(1 + number % 7))
            orders = order_list(sheet, most=20000)
            self.assertEqual(order_list(exchanged(sheet), most=20000), orders)
            self.assertEqual(order_list(stretched(sheet, "beats", Amount(9, 2)), most=20000), orders)
            self.assertEqual(sorted(order[::-1] for order in order_list(reversed_sheet(sheet), most=20000)),
                             sorted(orders))

    def test_wrong_values(self):
        sheet = Sheet(CUES)
        for value in values_without(Sheet):
            for call in [exchanged, reversed_sheet]:
                self.check_raises(InvalidSheet, "value", value, call, value)
            self.check_raises(InvalidSheet, "value", value, stretched, value, None, None)
        for value in all_values():
            self.check_raises(InvalidUnit, "value", value, stretched, sheet, value, None)
        for value in values_without(int, Amount) + [True, False, 0, -1, Amount(0), Amount(-1, 3)]:
            self.check_raises(InvalidAmount, "value", value, stretched, sheet, "beats", value)
        self.assertEqual(stretched(by=2, unit="seconds", sheet=exchanged(sheet=reversed_sheet(sheet=sheet))).cue("b"),
                         ("a", "seconds", Amount(-2)))


class Attached(Checks, unittest.TestCase):
    """Point 104."""

    def test_rows(self):
        dealer = Dealer(106)
        seen = []
        for number in range(80):
            one, other = dealer.cues(number % 5), dealer.cues(number // 5 % 4)
            at = dealer.dice.choice(["start", *[cue[0] for cue in one]])
            new = [("p" + name, at if parent == "start" else "p" + parent, unit, amount)
                   for name, parent, unit, amount in other]
            if len(moments_of(one + new)) > 8:
                seen.append(self.raised(TooMany, attached, Sheet(one), Sheet(other), at, "p").most)
            else:
                self.assertEqual(attached(Sheet(one), Sheet(other), at, "p"), Sheet(one + new))
        self.assertTrue(all(most == 8 for most in seen))
        sheet = Sheet(CUES)
        self.assertEqual(attached(prefix="x", at="c", other=sheet, sheet=sheet).names(),
                         ["a", "b", "c", "xa", "xb", "xc"])
        self.assertEqual(attached(sheet, Sheet([]), "start", "x"), sheet)
        self.assertEqual(told(attached(Sheet([]), sheet, "start", "x"))[1], ("xb", "xa", "beats", 1))

    def test_names(self):
        one = Sheet([("ab", "start", "beats", 1), ("start1", "ab", "beats", 1)])
        for names, prefix, kind, field, value in [
                (["b"], "a", Duplicate, "label", "ab"), (["c", "b"], "a", Duplicate, "label", "ab"),
                (["art"], "st", Duplicate, "label", "start"), (["rt1"], "sta", Duplicate, "label", "start1"),
                (["abcdefgh"], "a", InvalidName, "value", "aabcdefgh"),
                (["abcdefgh", "b"], "a", InvalidName, "value", "aabcdefgh"),
                (["b", "abcdefgh"], "a", Duplicate, "label", "ab")]:
            other = Sheet([(name, "start", "beats", index) for index, name in enumerate(names)])
            error = self.raised(kind, attached, one, other, "start", prefix)
            self.assertEqual(getattr(error, field), value)
        full = Sheet(FULL)
        self.assertEqual(self.raised(TooMany, attached, full, Sheet(CUES[:1]), "g", "x").most, 8)
        self.assertEqual(self.raised(InvalidName, attached, full, Sheet([("abcdefgh", "start", "beats", 1)]), "g",
                                     "x").value,
                         "xabcdefgh")

    def test_first_wrong_argument(self):
        sheet, other, at, prefix = ["sheet"], ("other",), ["at"], "1"
        self.check_turns(attached, [Sheet(CUES), Sheet(CUES), "start", "x"],
                         [(sheet, InvalidSheet, "value", sheet), (other, InvalidSheet, "value", other),
                          (at, UnknownCue, "label", at), (prefix, InvalidName, "value", prefix)])
        for value in values_without(Sheet):
            self.check_raises(InvalidSheet, "value", value, attached, value, None, None, None)
            self.check_raises(InvalidSheet, "value", value, attached, Sheet([]), value, None, None)
        for value in all_values():
            if value.__class__ is not str or value != "start":
                self.check_raises(UnknownCue, "label", value, attached, Sheet([]), Sheet(CUES), value, None)
        for value in values_without(str) + ["", "A", "-", "ninechars"]:
            self.check_raises(InvalidName, "value", value, attached, Sheet(CUES), Sheet(CUES), "start", value)


class Stay(unittest.TestCase):
    """Point 8: sheets never change."""

    def test_sheets_stay(self):
        sheet = Sheet(CUES)
        kept = copy.deepcopy(told(sheet))
        for made in [inserted(sheet, "d", "a", "beats", 5), dropped(sheet, "c"), renamed(sheet, "a", "z"),
                     nudged(sheet, "a", "beats", 1), hung(sheet, "b", "start"), exchanged(sheet), reversed_sheet(sheet),
                     stretched(sheet, "beats", 2), attached(sheet, sheet, "a", "x")]:
            self.assertIsNot(made, sheet)
            self.assertIsInstance(made, Sheet)
            made.cues().clear()
            made.moments()[0].append(1)
            self.assertEqual(told(sheet), kept)
            self.assertEqual(Sheet(made.cues()), made)


if __name__ == "__main__":
    unittest.main()
