"""Points 111 to 113, and points 5, 7 and 9 as far as they speak of texts."""

import unittest

from anytempo.amounts import Amount, amount_of
from anytempo.errors import (
    Duplicate, Falling, InvalidFact, InvalidLine, InvalidMap, InvalidOrder, InvalidSheet, InvalidString, TooMany,
    UnknownCue,
)
from anytempo.facts import is_fact
from anytempo.maps import TempoMap
from anytempo.relations import meets
from anytempo.sheets import Sheet
from anytempo.texts import fact_of, fact_text, map_of, map_text, order_text, sheet_of, sheet_text
from hard import HARD, MANY
from reckoned import Dealer, NAMES, UNITS, WORDS, all_orders, moments_of, plain
from values import Checks, all_values, lists, sixty, strings, tuples, values_without

CUES = [("a", "start", "beats", 2), ("b", "a", "seconds", Amount(-1, 2))]
TEXT = "cue a start beats 2\ncue b a seconds -1/2"


def number_text(amount):
    """An amount as a text, by Python's own fractions."""
    return str(plain(amount))


def damaged(text):
    """Texts in which a character or a word is left out, put in, doubled or exchanged."""
    found = []
    for index in range(len(text) + 1):
        for put in [" ", "\n", "-", "0", "a", "A", "/", ":", "1", "x "]:
            found.append(text[:index] + put + text[index:])
        if index < len(text):
            found.extend([text[:index] + text[index + 1:], text[:index] + text[index] + text[index:]])
        found.append(text[:index] + text[index:][::-1])
    words = text.split(" ")
    for index in range(len(words)):
        found.extend([" ".join(words[:index] + words[index + 1:]), " ".join(words[:index + 1] + words[index:])])
    return [each for each in found if each != text]


def line_fits(line):
    """Whether a line has the form of a cue, by an own reading."""
    words = line.split(" ")
    if len(words) != 5 or words[0] != "cue" or words[3] not in UNITS:
        return False
    return is_name(words[1]) and is_name(words[2]) and is_number(words[4])


def is_name(word):
    letters = "abcdefghijklmnopqrstuvwxyz"
    return 0 < len(word) < 9 and word[0] in letters and all(item in letters + "0123456789" for item in word)


def is_digits(word, most):
    return 0 < len(word) <= most and all(item in "0123456789" for item in word) and (word[0] != "0" or word == "0")


def is_number(word):
    parts = word.split("/")
    top = parts[0][1:] if parts[0].startswith("-") else parts[0]
    if len(parts) > 2 or not is_digits(top, 6) or parts[0] == "-0":
        return False
    return len(parts) == 1 or (is_digits(parts[1], 4) and 1 <= int(parts[1]) <= 1000)


def fact_fits(text):
    """Whether a text has the form of a fact, by an own reading."""
    words = text.split(" ")
    if words[0] == "order":
        return len(words) == 4 and words[2] in WORDS and is_name(words[1]) and is_name(words[3])
    if words[0] not in ["apart", "between"] or len(words) != (5 if words[0] == "apart" else 6):
        return False
    limits = [word == "-" and words[0] == "between" or is_number(word) for word in words[4:]]
    return words[1] in UNITS and is_name(words[2]) and is_name(words[3]) and all(limits)


def map_fits(text):
    """Whether a text has the form of a map, by an own reading."""
    return all(len(word.split(":")) == 2 and all(map(is_number, word.split(":"))) for word in text.split(" "))


class Sheets(Checks, unittest.TestCase):
    """Point 111."""

    def test_example_of_the_document(self):
        sheet = sheet_of(TEXT)
        self.assertEqual([sheet_text(sheet), sheet.names()], [TEXT, ["a", "b"]])
        self.assertEqual(sheet, Sheet(CUES))

    def test_there_and_back(self):
        dealer = Dealer(111)
        for number in range(60):
            cues = dealer.cues(number % 13)
            text = "\n".join(f"cue {name} {parent} {unit} {number_text(amount)}" for name, parent, unit, amount in cues)
            self.assertEqual(sheet_text(Sheet(cues)), text)
            self.assertEqual(sheet_of(text), Sheet(cues))
        self.assertEqual([sheet_text(Sheet([])), sheet_of(""), sheet_of(text=TEXT)], ["", Sheet([]), Sheet(CUES)])
        self.assertEqual(sheet_text(sheet=sheet_of("cue a start beats 4/6\ncue b start seconds 0/7")),
                         "cue a start beats 2/3\ncue b start seconds 0")
        self.assertEqual(sheet_text(Sheet([("abcdefg1", "start", "seconds", sixty(1))])),
                         f"cue abcdefg1 start seconds {number_text(sixty(1))}")

    def test_damaged_texts(self):
        for text in [TEXT, "cue a start beats 10", "cue a1 start seconds 3/4\ncue b start beats -7\ncue c a1 beats 0"]:
            seen = []
            for wrong in damaged(text):
                lines = wrong.split("\n") if wrong else []
                bad = [index for index, line in enumerate(lines) if not line_fits(line)]
                seen.append(bool(bad))
                if bad:
                    self.assertEqual(self.raised(InvalidLine, sheet_of, wrong).index, bad[0], wrong)
                    continue
                cues = [tuple(line.split(" ")[1:4]) + (amount_of(line.split(" ")[4]),) for line in lines]
                try:
                    expected = Sheet(cues)
                except (Duplicate, UnknownCue) as error:
                    self.assertEqual(self.raised(error.__class__, sheet_of, wrong).label, error.label)
                else:
                    self.assertEqual(sheet_of(wrong), expected)
            self.assertTrue(20 < seen.count(False) < seen.count(True))

    def test_lines(self):
        for text, index in [("\n", 0), (" ", 0), (TEXT + "\n", 2), ("\n" + TEXT, 0), (TEXT.replace("\n", "\n\n"), 1),
                            (TEXT + " ", 1), (" " + TEXT, 0), (TEXT.replace("cue b", "cue  b"), 1),
                            ("Cue a start beats 1", 0),
                            ("cue a start beats", 0), ("cue a start beats 1 1", 0), ("cue a start beat 1", 0),
                            ("cue a Start beats 1", 0), ("cue a start beats +1", 0), ("cue a start beats 1.0", 0),
                            ("cue a start beats 1234567", 0), ("cue a start beats 1/1001", 0),
                            ("cue a start beats -0", 0),
                            ("cue a start beats 01", 0), ("cue a x beats 1\ncue b start beats x", 1), ("cue", 0),
                            ("cue a start beats 1\rcue b start beats 1", 0), ("cue a start beats -", 0),
                            ("cue a\tstart beats 1", 0)]:
            self.assertEqual(self.raised(InvalidLine, sheet_of, text).index, index, text)

    def test_what_sheets_raise(self):
        for text, kind, field, value in [
                ("cue start start beats 1", Duplicate, "label", "start"), ("cue a x beats 1", UnknownCue, "label", "x"),
                ("cue a a beats 1", UnknownCue, "label", "a"),
                (TEXT + "\ncue a start beats 1", Duplicate, "label", "a"),
                ("cue b a beats 1\ncue a start beats 1", UnknownCue, "label", "a"),
                ("\n".join(f"cue c{index} start beats {index + 1}" for index in range(8)), TooMany, "most", 8)]:
            self.assertEqual(getattr(self.raised(kind, sheet_of, text), field), value)

    def test_long_texts(self):
        text = "\n".join(f"cue {name}2345678 start seconds 123456/{1000 - index % 3}" for index,
                         name in enumerate(NAMES))
        self.assertEqual(len(sheet_of(text)), 12)
        for length in [1999, 2000]:
            wrong = (text + "\n") * 5
            self.assertEqual(self.raised(InvalidLine, sheet_of, wrong[:length] + "\n").index,
                             wrong[:length].count("\n"))
        self.assertEqual(self.raised(InvalidLine, sheet_of, "\n" * 2000).index, 0)
        self.assertEqual(self.raised(InvalidLine, sheet_of, "cue a start beats " + "1" * 1982).index, 0)

    def test_wrong_values(self):
        for value in values_without(Sheet):
            self.check_raises(InvalidSheet, "value", value, sheet_text, value)
        for value in values_without(str):
            self.check_raises(InvalidString, "value", value, sheet_of, value)


class Facts(Checks, unittest.TestCase):
    """Point 112."""

    def test_examples_of_the_document(self):
        fact = ("between", "beats", "a", "start", None, Amount(1, 2))
        self.assertEqual([fact_text(fact), fact_of("order a before b"), map_text(map_of("0:0 4:2"))],
                         ["between beats a start - 1/2", ("order", "a", "before", "b"), "0:0 4:2"])

    def test_there_and_back(self):
        dealer = Dealer(112)
        for number in range(200):
            fact = dealer.fact(dealer.cues(1 + number % 5))
            items = ["-" if item is None else item if isinstance(item, str) else number_text(item) for item in fact]
            text = " ".join(items)
            for each in [fact, lists(fact)]:
                self.assertEqual(fact_text(each), text)
            told = fact_of(text=text)
            self.assertIs(is_fact(told), True)
            self.assertEqual([told.__class__, plain(told)], [tuple, plain(fact)])
            self.assertTrue(all(item is None or item.__class__ in (str, Amount) for item in told))
        self.assertEqual(fact_text(fact=("apart", "seconds", "x1", "start", -7)), "apart seconds x1 start -7")
        self.assertEqual(fact_text(("between", "beats", "a", "a", sixty(2), None)),
                         f"between beats a a {number_text(sixty(2))} -")
        self.assertEqual(plain(fact_of("between beats a b 4/6 -")),
                         ("between", "beats", "a", "b", plain(Amount(2, 3)), None))

    def test_damaged_texts(self):
        for text in ["order a before b", "order start same b2", "apart beats a start 1/2", "apart seconds x y -3",
                     "between beats a b 1 2", "between seconds a start - 1/2", "between beats a b -7 -"]:
            seen = []
            for wrong in damaged(text):
                seen.append(fact_fits(wrong))
                if seen[-1]:
                    self.assertEqual(plain(fact_of(wrong)).__class__, tuple)
                    self.assertEqual(fact_text(fact_of(wrong)).split(" ")[:4], wrong.split(" ")[:4])
                else:
                    self.check_raises(InvalidString, "value", wrong, fact_of, wrong)
            self.assertTrue(8 < seen.count(True) < seen.count(False))

    def test_other_forms(self):
        for text in ["", " ", "order", "order a b", "order a BEFORE b", "order a before b ", "order  a before b",
                     "Order a before b",
                     "apart beats a b -", "apart beats a b", "apart beat a b 1", "between beats a b 1",
                     "between beats a b - - -",
                     "between beats a b -- 1", "between beats a b None 1", "order a before 2b",
                     "order a before verylong1",
                     "apart beats a b 1/0", "apart beats a b 01", "apart beats a b 1234567",
                     "between beats a b 1 1/1001",
                     "order a\nbefore b", "fact order a before b"]:
            self.check_raises(InvalidString, "value", text, fact_of, text)
        for value in values_without(str):
            self.check_raises(InvalidString, "value", value, fact_of, value)

    def test_wrong_facts(self):
        wrong = [("order", "a", "before"), ("order", "a", "Before", "b"), ("order", 1, "before", "b"),
                 ("order", "A", "same", "b"),
                 ("order", "a", "same", None), ("order", ["a"], "same", "b"), ("apart", "beats", "a", "b", None),
                 ("apart", "beats", "a", "b", "1"), ("apart", "beats", "a", "1b", 1),
                 ("between", "beats", "", "b", 1, 2),
                 ("between", "beats", "a", "b", 1), ("between", "beats", "a", "b", True, 2),
                 ("between", "beats", "a", "ninechars", 1, 2),
                 ("order", "a", "before", "b", 1), "order a before b", {}, []]
        for value in wrong + values_without():
            self.check_raises(InvalidFact, "value", value, fact_text, value)


class Maps(Checks, unittest.TestCase):
    """Point 112."""

    def test_there_and_back(self):
        dealer = Dealer(113)
        for number in range(80):
            points = dealer.points(number % 9)
            tempo = TempoMap(points)
            text = " ".join(f"{number_text(beat)}:{number_text(second)}" for beat, second in tempo.points())
            self.assertEqual(map_text(tempo), text)
            if map_fits(text):
                self.assertEqual(map_of(text=text), tempo)
            told = " ".join(f"{number_text(beat)}:{number_text(second)}" for beat, second in points)
            if points and map_fits(told):
                self.assertEqual(map_of(told), tempo)
        self.assertEqual([map_text(tempo=TempoMap()), map_text(TempoMap([(1, 2), (2, 3)]))], ["0:0", "0:1"])
        self.assertEqual([map_of("0:0"), map_of("-4/6:3 0:4")],
                         [TempoMap(), TempoMap([(Amount(-2, 3), 3), (0, 4)])])

    def test_texts_of_results(self):
        # A text with longer numbers than amount_of takes is told, but not read.
        tempo = TempoMap([(0, 0), (sixty(1), sixty(2))])
        text = map_text(tempo)
        self.check_raises(InvalidString, "value", text, map_of, text)
        for told in [meets(Sheet(MANY), [])[1], meets(Sheet(HARD[0][0]), HARD[0][1][:4])[1]]:
            text = " ".join(f"{number_text(beat)}:{number_text(second)}" for beat, second in told.points())
            self.assertEqual(map_text(told), text)

    def test_damaged_texts(self):
        for text in ["0:0 4:2", "-3/2:1", "1:2 5/3:17/8 100:200", "10:-20 11:-19 12:0"]:
            seen = []
            for wrong in damaged(text):
                seen.append(map_fits(wrong))
                if not seen[-1]:
                    self.check_raises(InvalidString, "value", wrong, map_of, wrong)
                    continue
                points = [tuple(amount_of(part) for part in word.split(":")) for word in wrong.split(" ")]
                try:
                    expected = TempoMap(points)
                except Falling as error:
                    self.assertEqual(self.raised(Falling, map_of, wrong).index, error.index)
                else:
                    self.assertEqual(map_of(wrong), expected)
            self.assertTrue(8 < seen.count(True) < seen.count(False))

    def test_other_forms(self):
        for text in ["", " ", "0", "0:", ":0", "0:0:0", "0:0  1:1", " 0:0", "0:0 ", "0:0\n1:1", "0 :0", "a:b",
                     "0:0 1:-", "1/0:1",
                     "0:0,1:1", "1234567:0", "00:0", "-0:0"]:
            self.check_raises(InvalidString, "value", text, map_of, text)
        for value in values_without(str) + strings():
            self.check_raises(InvalidString, "value", value, map_of, value)
        for text, index in [("0:0 0:1", 1), ("0:0 1:0", 1), ("0:0 1:1 2:2 1:3", 3), ("0:0 -1:1", 1)]:
            self.assertEqual(self.raised(Falling, map_of, text).index, index)
        # The form of all points is checked before the first one that falls.
        self.check_raises(InvalidString, "value", "0:0 0:0 x", map_of, "0:0 0:0 x")
        for value in values_without(TempoMap):
            self.check_raises(InvalidMap, "value", value, map_text, value)


class OrderTexts(Checks, unittest.TestCase):
    """Point 113."""

    def test_example_of_the_document(self):
        self.assertEqual(order_text(sheet_of(TEXT), [[0], [2], [1]]), "start < b < a")

    def test_groups(self):
        dealer = Dealer(114)
        for number in range(30):
            cues = dealer.cues(number % 7)
            if len(moments_of(cues)) > 4:
                continue
            sheet = Sheet(cues)
            for order in all_orders(len(moments_of(cues))):
                groups = []
                for group in order:
                    names = ["start"] * (0 in group) + [cue[0] for cue in cues if sheet.moment(cue[0]) in group]
                    groups.append(" = ".join(names))
                self.assertEqual(order_text(sheet, order), " < ".join(groups))
                self.assertEqual(order_text(order=tuples([group[::-1] for group in order]), sheet=sheet),
                                 " < ".join(groups))
        self.assertEqual(order_text(Sheet([]), [[0]]), "start")
        sheet = Sheet([("z", "start", "beats", 1), ("y", "start", "beats", 0), ("x", "z", "beats", 0),
                       ("w", "y", "beats", 2)])
        self.assertEqual(order_text(sheet, [[2, 1], [0]]), "z = x = w < start = y")

    def test_wrong_values(self):
        sheet = sheet_of(TEXT)
        for value in values_without(Sheet):
            self.check_raises(InvalidSheet, "value", value, order_text, value, None)
        for value in all_values() + [[[0], [1]], [[0], [1], [2], []], [[0], [1], [1]], [[0], [True], [2]], [0, 1, 2]]:
            self.check_raises(InvalidOrder, "value", value, order_text, sheet, value)


if __name__ == "__main__":
    unittest.main()
