"""Fractions and surds: their one form, and comparing them."""

from math import isqrt

from platelights.errors import InvalidFraction, InvalidNumber, InvalidSurd
from platelights.ratios import is_square_ratio, ratio, ratio_product, ratio_sum, square_root
from platelights.wholes import is_reduced_row, is_whole, sign_of

_NOUGHT = (0, 1)
_MOST_DIGITS = 30


def is_fraction(value):
    """Whether a value is a fraction."""
    return is_reduced_row(value, 2) and value[1] > 0


def is_surd(value):
    """Whether a value is a surd."""
    if type(value) is not tuple or len(value) != 3:
        return False
    part, sign, square = value
    if not (is_fraction(part) and is_whole(sign) and is_fraction(square)):
        return False
    if sign == 0:
        return square == _NOUGHT
    return sign in (-1, 1) and square[0] > 0 and not is_square_ratio(square)


def check_fraction(value):
    """Raise an error for what is no fraction."""
    if not is_fraction(value):
        raise InvalidFraction(value)


def check_positive_fraction(value):
    """Raise an error for what is no fraction from 0 on."""
    if not is_fraction(value) or value[0] < 0:
        raise InvalidFraction(value)


def is_share(value):
    """Whether a value is a fraction from 0 to 1."""
    return is_fraction(value) and 0 <= value[0] <= value[1]


def check_share(value):
    """Raise an error for what is no fraction from 0 to 1."""
    if not is_share(value):
        raise InvalidFraction(value)


def check_whole(value):
    """Raise an error for what is no whole number."""
    if not is_whole(value):
        raise InvalidNumber(value)


def check_below(value):
    """Raise an error for what is no whole number above 0."""
    if not is_whole(value) or value <= 0:
        raise InvalidNumber(value)


def check_whole_to(value, most):
    """Raise an error for what is no whole number from 0 to another one."""
    if not is_whole(value) or value < 0 or value > most:
        raise InvalidNumber(value)


def check_surd(value):
    """Raise an error for what is no surd."""
    if not is_surd(value):
        raise InvalidSurd(value)


def fraction_of(p, q):
    """The fraction p / q."""
    check_whole(p)
    if not is_whole(q) or q == 0:
        raise InvalidNumber(q)
    return ratio(p, q)


def surd_of(part, factor, square):
    """The surd of a fraction plus a whole number times the root of a fraction."""
    check_fraction(part)
    check_whole(factor)
    check_positive_fraction(square)
    whole = ratio_product((factor * factor, 1), square)
    if not is_square_ratio(whole):
        return (part, sign_of(factor), whole)
    root = square_root(whole)
    return (ratio_sum(part, (sign_of(factor) * root[0], root[1])), 0, _NOUGHT)


def _sign_with_root(number, sign, square):
    """The sign of a whole number plus or minus the root of a whole number from 0 on."""
    # A number times its size grows as the number does, so both parts can be compared by their squares.
    return sign_of(number * abs(number) + sign * square)


def _sign_of_sum(number, sign, square, other_sign, other_square):
    """The sign of a whole number plus or minus two roots of whole numbers from 0 on."""
    roots = sign_of(sign * square + other_sign * other_square)
    if sign_of(number) * roots >= 0:
        return roots if number == 0 else sign_of(number)
    # Number and roots pull apart: the one with the greater square wins.
    rest = number * number - square - other_square
    return sign_of(number) * _sign_with_root(rest, -sign * other_sign, 4 * square * other_square)


def _over(surd, below):
    """The two whole numbers of a surd's part and square, over a whole number and its square."""
    part, _, square = surd
    return (part[0] * (below // part[1]), square[0] * (below * below // square[1]))


def compare(surd, other):
    """-1, 0 or 1, as a surd is less than, equal to, greater than another one."""
    check_surd(surd)
    check_surd(other)
    below = surd[0][1] * surd[2][1] * other[0][1] * other[2][1]
    part, square = _over(surd, below)
    other_part, other_square = _over(other, below)
    return _sign_of_sum(part - other_part, surd[1], square, -other[1], other_square)


def _power_of_ten(digits):
    """1 with so many noughts behind it."""
    power = 1
    for _ in range(digits):
        power *= 10
    return power


def nearest(surd, digits):
    """The greatest whole number not above a surd times 10 to the power of the digits."""
    check_surd(surd)
    check_whole_to(digits, _MOST_DIGITS)
    below = surd[0][1] * surd[2][1]
    power = _power_of_ten(digits)
    part, square = _over(surd, below)
    root = isqrt(square * power * power)
    if surd[1] < 0:
        # The root is no whole number here, so the next one is the least above it.
        root = -root - 1
    return (part * power + root) // below
