"""Point 12, and point 2 as far as it speaks of integers, names, units and words."""

import string
import unittest

from anytempo.amounts import is_amount
from anytempo.errors import InvalidUnit, InvalidWord
from anytempo.validation import is_integer, is_name, is_unit, is_word, other_unit, turned
from values import Checks, amounts, any_values, integers, strings


def everything():
    return any_values() + strings() + integers() + amounts()


class Integers(unittest.TestCase):
    def test_bounds_belong_to_the_range(self):
        told = [is_integer(value, 2, 5) for value in range(0, 8)]
        self.assertEqual(told, [False, False, True, True, True, True, False, False])

    def test_negative_bounds(self):
        self.assertEqual([is_integer(value, -3, -2) for value in [-4, -3, -2, -1]], [False, True, True, False])

    def test_one_value_and_none(self):
        self.assertIs(is_integer(4, 4, 4), True)
        self.assertIs(is_integer(4, 5, 3), False)
        self.assertIs(is_integer(4, 5, 4), False)
        self.assertIs(is_integer(4, 4, 3), False)

    def test_long_integers(self):
        high = 10 ** 60 - 1
        self.assertIs(is_integer(high, -high, high), True)
        self.assertIs(is_integer(-high, -high, high), True)
        self.assertIs(is_integer(high, 0, high - 1), False)

    def test_true_and_false_are_not_integers(self):
        for value in [True, False]:
            self.assertIs(is_integer(value, -5, 5), False)
            self.assertIs(is_integer(value, value, value), False)

    def test_other_kinds(self):
        for value in any_values() + strings() + amounts():
            self.assertIs(is_integer(value, -10 ** 60, 10 ** 60), False)

    def test_arguments_by_name(self):
        self.assertIs(is_integer(high=3, value=2, low=1), True)
        self.assertIs(is_integer(high=1, value=2, low=1), False)


class Names(unittest.TestCase):
    def test_each_first_character(self):
        for number in range(128):
            character = chr(number)
            self.assertIs(is_name(character), character in string.ascii_lowercase, character)

    def test_each_later_character(self):
        good = string.ascii_lowercase + string.digits
        for number in range(128):
            character = chr(number)
            for name in ["a" + character, "ab" + character + "9", "a234567" + character]:
                self.assertIs(is_name(name), character in good, name)

    def test_length(self):
        for count in range(12):
            self.assertIs(is_name("a" * count), 1 <= count <= 8, count)

    def test_letters_and_digits_of_other_scripts(self):
        for name in ["\u00e4", "a\u00e4", "a\u00b2", "a\u0663", "\u03b1", "\uff41"]:
            self.assertIs(is_name(name), False)

    def test_start_is_a_name(self):
        self.assertIs(is_name("start"), True)
        self.assertIs(is_name(value="a1"), True)

    def test_other_kinds(self):
        for value in any_values() + integers() + amounts() + [["a"], ("a",), {"a": "a"}]:
            self.assertIs(is_name(value), False)


class UnitsAndWords(Checks, unittest.TestCase):
    def test_units(self):
        self.assertIs(is_unit("beats"), True)
        self.assertIs(is_unit("seconds"), True)
        for value in everything() + ["before", "same", "after", "beats ", " seconds", "beatsseconds"]:
            self.assertIs(is_unit(value), False)
        self.assertIs(is_unit(value="beats"), True)

    def test_words(self):
        for word in ["before", "same", "after"]:
            self.assertIs(is_word(word), True)
        for value in everything() + ["beats", "seconds", "AFTER", "sam", "beforesame"]:
            self.assertIs(is_word(value), False)
        self.assertIs(is_word(value="same"), True)

    def test_other_unit(self):
        self.assertEqual([other_unit("beats"), other_unit("seconds")], ["seconds", "beats"])
        self.assertEqual(other_unit(unit="beats"), "seconds")

    def test_turned(self):
        self.assertEqual([turned("before"), turned("same"), turned("after")], ["after", "same", "before"])
        self.assertEqual(turned(word="after"), "before")

    def test_wrong_units_and_words(self):
        for value in everything():
            self.check_raises(InvalidUnit, "value", value, other_unit, value)
            self.check_raises(InvalidUnit, "value", value, other_unit, unit=value)
            self.check_raises(InvalidWord, "value", value, turned, value)
            self.check_raises(InvalidWord, "value", value, turned, word=value)
        for word in ["before", "same", "after"]:
            self.check_raises(InvalidUnit, "value", word, other_unit, word)
        for unit in ["beats", "seconds"]:
            self.check_raises(InvalidWord, "value", unit, turned, unit)


class Amounts(unittest.TestCase):
    def test_amounts_and_integers(self):
        for value in amounts() + integers():
            self.assertIs(is_amount(value), True)
            self.assertIs(is_amount(value=value), True)

    def test_other_kinds(self):
        for value in any_values() + strings():
            self.assertIs(is_amount(value), False)


if __name__ == "__main__":
    unittest.main()
