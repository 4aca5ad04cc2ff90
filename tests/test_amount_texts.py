"""Points 14 and 15: amounts as strings, and the sum, the least and the greatest of several."""

import unittest
from fractions import Fraction

from anytempo.amounts import Amount, amount_of, amount_text, greatest, least, total
from anytempo.errors import InvalidAmount, InvalidPart
from values import Checks, amounts, any_values, integers, strings

DIGITS = "123456789012345678901234567890123456789012345678901234567891"


class Writing(Checks, unittest.TestCase):
    def test_amounts(self):
        told = {"0": Amount(0, -3), "7": Amount(14, 2), "-7": Amount(7, -1), "1/2": Amount(2, 4),
                "-3/2": Amount(6, -4), "-1/1000": Amount(-1, 1000), "10/9": Amount(10, 9)}
        for text, amount in told.items():
            self.assertEqual(amount_text(amount), text)

    def test_integers(self):
        for number in integers():
            self.assertEqual(amount_text(number), str(number))
            self.assertEqual(amount_text(amount=number), str(number))

    def test_long_amounts(self):
        self.assertEqual(amount_text(Amount(-int(DIGITS), 2 ** 190)), "-" + DIGITS + "/" + str(2 ** 190))
        self.assertEqual(amount_text(10 ** 60), "1" + "0" * 60)
        self.assertEqual(amount_text(10 ** 60 - 1), "9" * 60)
        self.assertEqual(amount_text(Amount(3, 10 ** 120)), "3/1" + "0" * 120)
        self.assertEqual(amount_text(Amount(7 * 10 ** 130 + 5)), "7" + "0" * 129 + "5")

    def test_results_of_thousands_of_digits(self):
        amount = Amount(10 ** 50)
        for _ in range(7):
            amount = amount * amount
        self.assertEqual(amount_text(amount), "1" + "0" * 6400)
        self.assertEqual(amount_text(-amount - 1), "-1" + "0" * 6399 + "1")
        self.assertEqual(amount_text(Amount(1).divided(amount)), "1/1" + "0" * 6400)

    def test_wrong_amounts(self):
        for value in any_values() + strings():
            self.check_raises(InvalidAmount, "value", value, amount_text, value)
            self.check_raises(InvalidAmount, "value", value, amount_text, amount=value)


class Reading(unittest.TestCase):
    def check_read(self, text, fraction):
        told = amount_of(text)
        self.assertIsInstance(told, Amount, text)
        self.assertEqual((told.top, told.bottom), (fraction.numerator, fraction.denominator), text)

    def test_strings_in_the_form(self):
        for text in ["0", "1", "-1", "9", "10", "-10", "999999", "-999999", "100000", "0/1", "0/5", "0/1000", "1/1",
                     "-4/6", "6/4", "1/1000", "1/999", "999999/1000", "-999999/999", "5/10", "12/12", "7/9"]:
            self.check_read(text, Fraction(text))

    def test_by_name(self):
        self.assertEqual(amount_of(text="3/6"), Amount(1, 2))
        self.assertIsNone(amount_of(text="3/"))

    def test_zeros(self):
        for text in ["-0", "-0/1", "-0/5", "00", "000000", "01", "-01", "007", "1/0", "0/0", "-1/0", "1/00", "1/01",
                     "1/0001", "01/2", "1/0000"]:
            self.assertIsNone(amount_of(text), text)

    def test_numbers_that_are_too_long_or_too_large(self):
        for text in ["1000000", "-1000000", "1234567", "0000001", "1000000/7", "1/1001", "1/1010", "1/9999", "1/2000",
                     "1/10000", "1/12345", "-1/1001", "0/1001", "1001/1001", "9" * 100]:
            self.assertIsNone(amount_of(text), text)

    def test_every_bottom(self):
        for bottom in range(1, 1101):
            told = amount_of(f"1/{bottom}")
            self.assertEqual(told, Amount(1, bottom) if bottom <= 1000 else None)

    def test_other_strings(self):
        for text in ["", "-", "/", "-/", "1/", "/2", "-/2", "+1", "--1", "1-", "1/-2", "1/+2", "1/2/3", "1//2", "1/2/",
                     " 1", "1 ", "1 /2", "1/ 2", "1/2 ", "1\n", "\n1", "1/2\n", "1.0", "1e3", "1_000", "0x1", "1,000",
                     "a", "1a", "a1", "1/a", "1/2a", "None", "- 1", "-1/", "0-", "\u00b2", "\u0663", "1/\u0662",
                     "\uff11", "1/1_0"]:
            self.assertIsNone(amount_of(text), text)

    def test_each_character(self):
        for character in [chr(number) for number in range(128)]:
            for text in [character, "1" + character, "-" + character, "1/" + character, "1/1" + character]:
                if character.isdigit() and (character != "0" or text in ["0", "10", "1/10"]):
                    self.check_read(text, Fraction(text))
                else:
                    self.assertIsNone(amount_of(text), text)

    def test_other_kinds(self):
        for value in any_values() + integers() + amounts() + [["1"], ("1",), {"1": "1"}]:
            self.assertIsNone(amount_of(value))

    def test_what_is_written_is_read(self):
        for top in [0, 1, -1, 7, -15, 999999, -999999]:
            for bottom in [1, 2, 8, 999, 1000]:
                self.assertEqual(amount_of(amount_text(Amount(top, bottom))), Amount(top, bottom))

    def test_example_of_the_document(self):
        told = [amount_text(Amount(6, -4)), amount_text(7), amount_of("-4/6") == Amount(-2, 3), amount_of("1/0"),
                amount_of("+1")]
        self.assertEqual(told, ["-3/2", "7", True, None, None])


class Several(Checks, unittest.TestCase):
    def check_amount(self, result, amount):
        self.assertIsInstance(result, Amount)
        self.assertEqual(result, amount)

    def test_total(self):
        self.check_amount(total(), Amount(0))
        self.check_amount(total(5), Amount(5))
        self.check_amount(total(Amount(-2, 3)), Amount(-2, 3))
        self.check_amount(total(1, 2, 3, 4), Amount(10))
        self.check_amount(total(Amount(1, 2), -1, Amount(1, 3)), Amount(-1, 6))
        self.check_amount(total(*[Amount(1, 7)] * 50), Amount(50, 7))
        self.check_amount(total(10 ** 60, 1), Amount(10 ** 60 + 1))

    def test_least_and_greatest(self):
        rows = [[4], [Amount(-1, 2)], [1, 2], [2, 1], [3, 3], [0, -1, 1], [Amount(1, 2), Amount(1, 3), Amount(2, 5)],
                [2, Amount(5, 2), Amount(3, 2)], [Amount(-1, 2), Amount(-1, 3), -1], [10 ** 60, -(10 ** 60), 7],
                [5, 1, 4, 2, 3], [Amount(1, 3), Amount(333333, 10 ** 6)]]
        for row in rows:
            fractions = [Fraction(item.top, item.bottom) if isinstance(item, Amount) else Fraction(item)
                         for item in row]
            low, high = min(fractions), max(fractions)
            self.check_amount(least(*row), Amount(low.numerator, low.denominator))
            self.check_amount(greatest(*row), Amount(high.numerator, high.denominator))

    def test_arguments_are_not_changed(self):
        one, other = Amount(1, 2), Amount(3, 4)
        for call in [total, least, greatest]:
            call(one, other, 1)
            self.assertEqual([one.top, one.bottom, other.top, other.bottom], [1, 2, 3, 4])

    def test_no_arguments(self):
        for call in [least, greatest]:
            self.assertEqual(self.raised(InvalidPart, call).value, ())

    def test_wrong_arguments(self):
        for call in [total, least, greatest]:
            for value in any_values() + strings():
                self.check_raises(InvalidAmount, "value", value, call, value)
                self.check_raises(InvalidAmount, "value", value, call, 1, value)
                self.check_raises(InvalidAmount, "value", value, call, value, 1)
                self.check_raises(InvalidAmount, "value", value, call, Amount(1, 2), value, 3)

    def test_the_first_wrong_argument_counts(self):
        for call in [total, least, greatest]:
            first, second = ["first"], ["second"]
            self.check_raises(InvalidAmount, "value", first, call, 1, first, second)
            self.check_raises(InvalidAmount, "value", second, call, second, first)
            self.check_raises(InvalidAmount, "value", True, call, 1, True, False)

    def test_a_list_is_not_several_amounts(self):
        for call in [total, least, greatest]:
            value = [1, 2]
            self.check_raises(InvalidAmount, "value", value, call, value)

    def test_example_of_the_document(self):
        told = [total() == Amount(0), least(1, Amount(1, 2)) == Amount(1, 2),
                total(Amount(1, 3), Amount(2, 3), 4) == Amount(5)]
        self.assertEqual(told, [True, True, True])


if __name__ == "__main__":
    unittest.main()
