"""Point 13, and point 2 as far as it speaks of amounts."""

import copy
import unittest
from fractions import Fraction

from anytempo.amounts import Amount
from anytempo.errors import InvalidAmount, InvalidInteger
from values import Checks, amounts, any_values, integers, strings

THIRTY = 123456789012345678901234567890
SIXTY = 987654321098765432109876543210987654321098765432109876543210


def numbers():
    """Integers of both signs and of several lengths."""
    return [0, 1, -1, 2, -2, 3, 6, -6, 12, 35, THIRTY, -THIRTY, SIXTY, -SIXTY, SIXTY + 1]


def fractions():
    small = [Fraction(top, bottom) for top in [0, 1, -1, 2, -3, 6] for bottom in [1, 2, 3, 4]]
    return small + [Fraction(THIRTY, 7), Fraction(-7, SIXTY), Fraction(SIXTY, THIRTY + 1), Fraction(-SIXTY)]


def made(fraction):
    return Amount(fraction.numerator, fraction.denominator)


def parts(amount):
    return (amount.top, amount.bottom)


def wrong_amounts():
    return any_values() + strings()


class Making(Checks, unittest.TestCase):
    def test_lowest_terms(self):
        for top in numbers():
            for bottom in numbers():
                if bottom != 0:
                    fraction = Fraction(top, bottom)
                    self.assertEqual(parts(Amount(top, bottom)), (fraction.numerator, fraction.denominator))

    def test_signs(self):
        self.assertEqual(parts(Amount(2, -4)), (-1, 2))
        self.assertEqual(parts(Amount(-2, -4)), (1, 2))
        self.assertEqual(parts(Amount(-2, 4)), (-1, 2))
        self.assertEqual(parts(Amount(0, -5)), (0, 1))

    def test_the_bottom_may_be_omitted(self):
        for top in numbers():
            self.assertEqual(parts(Amount(top)), (top, 1))

    def test_arguments_by_name(self):
        self.assertEqual(parts(Amount(bottom=4, top=6)), (3, 2))
        self.assertEqual(parts(Amount(top=6)), (6, 1))

    def test_wrong_tops(self):
        for value in wrong_amounts() + amounts():
            self.check_raises(InvalidInteger, "value", value, Amount, value)
            self.check_raises(InvalidInteger, "value", value, Amount, value, 2)
            self.check_raises(InvalidInteger, "value", value, Amount, top=value, bottom=2)

    def test_wrong_bottoms(self):
        for value in wrong_amounts() + amounts() + [0]:
            self.check_raises(InvalidInteger, "value", value, Amount, 1, value)
            self.check_raises(InvalidInteger, "value", value, Amount, 0, value)

    def test_the_top_is_checked_first(self):
        for bottom in ["x", 0, None, False]:
            value = ["top"]
            self.check_raises(InvalidInteger, "value", value, Amount, value, bottom)


class Unchanged(unittest.TestCase):
    def test_the_parts_cannot_be_assigned(self):
        amount = Amount(3, 4)
        for name in ["top", "bottom"]:
            with self.assertRaises(AttributeError):
                setattr(amount, name, 5)
            self.assertIsInstance(getattr(Amount, name), property)
        self.assertEqual(parts(amount), (3, 4))

    def test_no_operation_changes_an_object(self):
        one, other = Amount(3, 4), Amount(-5, 6)
        for call in [lambda: one + other, lambda: one - other, lambda: one * other, lambda: one.divided(other),
                     lambda: -one, lambda: abs(other), lambda: one.compare(other), lambda: one == other]:
            call()
            self.assertEqual([parts(one), parts(other)], [(3, 4), (-5, 6)])

    def test_a_shortened_assignment_makes_a_new_object(self):
        one = kept = Amount(3, 4)
        one += 1
        one -= Amount(1, 4)
        one *= 2
        self.assertEqual([parts(one), parts(kept)], [(3, 1), (3, 4)])

    def test_an_error_changes_nothing(self):
        one = Amount(3, 4)
        for call in [lambda: one + "x", lambda: one.divided(0), lambda: one.compare(None)]:
            with self.assertRaises(InvalidAmount):
                call()
            self.assertEqual(parts(one), (3, 4))


class Equality(unittest.TestCase):
    def test_equal_fractions(self):
        for one in fractions():
            for other in fractions():
                self.assertIs(made(one) == made(other), one == other)
                self.assertIs(made(one) != made(other), one != other)
        self.assertEqual(Amount(-2, 4), Amount(3, -6))

    def test_only_amounts_are_equal(self):
        for value in any_values() + strings() + integers() + [(1, 1), Fraction(1)]:
            for amount in [Amount(0), Amount(1), Amount(7)]:
                self.assertIs(amount == value, False)
                self.assertIs(value == amount, False)
                self.assertIs(amount != value, True)

    def test_a_copy_is_equal(self):
        amount = Amount(5, 3)
        self.assertEqual(copy.deepcopy([amount]), [amount])


class Reckoning(Checks, unittest.TestCase):
    def check_result(self, result, fraction):
        self.assertIsInstance(result, Amount)
        self.assertEqual(parts(result), (fraction.numerator, fraction.denominator))

    def test_with_amounts(self):
        for one in fractions():
            for other in fractions():
                left, right = made(one), made(other)
                self.check_result(left + right, one + other)
                self.check_result(left - right, one - other)
                self.check_result(left * right, one * other)
                if other != 0:
                    self.check_result(left.divided(right), one / other)

    def test_with_integers_on_the_right_side(self):
        for one in fractions():
            for number in numbers():
                left = made(one)
                self.check_result(left + number, one + number)
                self.check_result(left - number, one - number)
                self.check_result(left * number, one * number)
                if number != 0:
                    self.check_result(left.divided(number), one / number)

    def test_opposites_and_absolute_values(self):
        for one in fractions():
            self.check_result(-made(one), -one)
            self.check_result(abs(made(one)), abs(one))

    def test_compare(self):
        for one in fractions():
            for other in fractions() + numbers():
                right = made(other) if isinstance(other, Fraction) else other
                told = made(one).compare(right)
                self.assertIs(told.__class__, int)
                self.assertEqual(told, (one > other) - (one < other))

    def test_arguments_by_name(self):
        self.check_result(Amount(1).divided(other=4), Fraction(1, 4))
        self.assertEqual(Amount(1).compare(other=4), -1)

    def test_results_of_any_length(self):
        long = Amount(SIXTY, THIRTY + 1)
        fraction = Fraction(SIXTY, THIRTY + 1)
        for _ in range(3):
            long, fraction = long * long + 1, fraction * fraction + 1
        self.check_result(long, fraction)
        self.assertEqual(long.compare(long - Amount(1, SIXTY)), 1)

    def test_wrong_right_sides(self):
        for left in [Amount(3, 4), Amount(0)]:
            for value in wrong_amounts():
                self.check_raises(InvalidAmount, "value", value, lambda: left + value)
                self.check_raises(InvalidAmount, "value", value, lambda: left - value)
                self.check_raises(InvalidAmount, "value", value, lambda: left * value)
                self.check_raises(InvalidAmount, "value", value, left.divided, value)
                self.check_raises(InvalidAmount, "value", value, left.divided, other=value)
                self.check_raises(InvalidAmount, "value", value, left.compare, value)
                self.check_raises(InvalidAmount, "value", value, left.compare, other=value)

    def test_no_division_by_zero(self):
        for left in [Amount(3, 4), Amount(0), Amount(-2)]:
            for value in [0, Amount(0), Amount(0, 7), Amount(1) - 1]:
                self.check_raises(InvalidAmount, "value", value, left.divided, value)

    def test_amounts_have_no_order_signs(self):
        for call in [lambda: Amount(1) < Amount(2), lambda: Amount(1) >= Amount(2), lambda: Amount(1) > 0]:
            with self.assertRaises(TypeError):
                call()


class Example(unittest.TestCase):
    def test_of_the_document(self):
        half = Amount(2, -4)
        told = [half.top, half.bottom, (half + 1) == Amount(1, 2), (half * half).bottom, half.compare(0),
                abs(half) == Amount(1, 2)]
        self.assertEqual(told, [-1, 2, True, 4, -1, True])


if __name__ == "__main__":
    unittest.main()
