"""Amounts: exact fractions that never change."""

from math import gcd, lcm

from anytempo.errors import InvalidAmount, InvalidInteger, InvalidPart
from anytempo.validation import DIGITS, has_only, is_integer, is_whole

MOST_TOP_DIGITS = 6
MOST_BOTTOM_DIGITS = 4
MOST_BOTTOM = 1000


class Amount:
    """The fraction top / bottom, kept in lowest terms with a bottom greater than 0."""

    def __init__(self, top, bottom=1):
        if not is_whole(top):
            raise InvalidInteger(top)
        if not is_whole(bottom) or bottom == 0:
            raise InvalidInteger(bottom)
        common = gcd(top, bottom)
        if bottom < 0:
            common = -common
        self._top = top // common
        self._bottom = bottom // common

    @property
    def top(self):
        """The top in lowest terms; it has the sign."""
        return self._top

    @property
    def bottom(self):
        """The bottom in lowest terms, greater than 0."""
        return self._bottom

    def __eq__(self, other):
        return isinstance(other, Amount) and self._top == other._top and self._bottom == other._bottom

    def __add__(self, other):
        right = as_amount(other)
        return Amount(self._top * right._bottom + right._top * self._bottom, self._bottom * right._bottom)

    def __sub__(self, other):
        right = as_amount(other)
        return Amount(self._top * right._bottom - right._top * self._bottom, self._bottom * right._bottom)

    def __mul__(self, other):
        right = as_amount(other)
        return Amount(self._top * right._top, self._bottom * right._bottom)

    def __neg__(self):
        return Amount(-self._top, self._bottom)

    def __abs__(self):
        return Amount(abs(self._top), self._bottom)

    def divided(self, other):
        """The quotient of this amount and another one, which is not 0."""
        right = as_amount(other)
        if right._top == 0:
            raise InvalidAmount(other)
        return Amount(self._top * right._bottom, self._bottom * right._top)

    def compare(self, other):
        """-1, 0 or 1 if this amount is less than, equal to or greater than another one."""
        right = as_amount(other)
        # Both bottoms are greater than 0, so the crossed products stand as the fractions do.
        difference = self._top * right._bottom - right._top * self._bottom
        if difference == 0:
            return 0
        return 1 if difference > 0 else -1


def is_amount(value):
    """Whether a value is an Amount object or an integer, which stands for one."""
    return isinstance(value, Amount) or is_whole(value)


def as_amount(value):
    """The Amount object that a value is or stands for."""
    if not is_amount(value):
        raise InvalidAmount(value)
    return value if isinstance(value, Amount) else Amount(value)


def amount_text(amount):
    """An amount as a string, such as "-3/2"."""
    told = as_amount(amount)
    sign = "-" if told.top < 0 else ""
    below = "" if told.bottom == 1 else "/" + _decimal(told.bottom)
    return sign + _decimal(abs(told.top)) + below


def _decimal(number):
    """The digits of an integer that is not below 0."""
    # Python refuses to write thousands of digits at once, and results may have so many: write them by pieces.
    piece = 10 ** 60
    pieces = []
    while number >= piece:
        number, rest = divmod(number, piece)
        pieces.append(str(rest).zfill(60))
    pieces.append(str(number))
    return "".join(reversed(pieces))


def amount_of(text):
    """The amount that a string such as "-3/2" represents, or None if there is none."""
    if not isinstance(text, str):
        return None
    top, slash, bottom = text.partition("/")
    digits = top.removeprefix("-")
    if not _is_number(digits, MOST_TOP_DIGITS) or top == "-0":
        return None
    if slash == "":
        return Amount(int(top))
    if not _is_number(bottom, MOST_BOTTOM_DIGITS) or not is_integer(int(bottom), 1, MOST_BOTTOM):
        return None
    return Amount(int(top), int(bottom))


def _is_number(text, most):
    """Whether a text is one to most digits, the first one not 0 unless it is the only one."""
    # isdigit is not asked, because it takes digits of other scripts as well.
    if not 1 <= len(text) <= most or not has_only(text, DIGITS):
        return False
    return text == "0" or text[0] != "0"


def total(*amounts):
    """The sum of any number of amounts."""
    found = Amount(0)
    for amount in amounts:
        found = found + amount
    return found


def least(*amounts):
    """The smallest one of the amounts."""
    return _furthest(amounts, -1)


def greatest(*amounts):
    """The largest one of the amounts."""
    return _furthest(amounts, 1)


def _furthest(amounts, side):
    """The amount furthest on one side: -1 for the smallest, 1 for the largest."""
    if len(amounts) == 0:
        raise InvalidPart(())
    found = as_amount(amounts[0])
    for item in amounts[1:]:
        amount = as_amount(item)
        if amount.compare(found) == side:
            found = amount
    return found


def on_one_bottom(amounts):
    """The tops that Amount objects have above one common bottom, and this bottom."""
    bottom = 1
    for amount in amounts:
        bottom = lcm(bottom, amount.bottom)
    return [amount.top * (bottom // amount.bottom) for amount in amounts], bottom
