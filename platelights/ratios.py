"""Reckoning with fractions, pairs that are known to be right."""

from math import gcd, isqrt

from platelights.wholes import sign_of


def ratio(p, q):
    """The fraction p / q; q is not 0."""
    divisor = gcd(p, q) if q > 0 else -gcd(p, q)
    return (p // divisor, q // divisor)


def ratio_sum(one, two):
    """The sum of two fractions."""
    return ratio(one[0] * two[1] + two[0] * one[1], one[1] * two[1])


def ratio_product(one, two):
    """The product of two fractions."""
    return ratio(one[0] * two[0], one[1] * two[1])


def ratio_sign(one, two):
    """-1, 0 or 1, as the first fraction is less than, equal to, greater than the other one."""
    return sign_of(one[0] * two[1] - two[0] * one[1])


def middle_of(one, two):
    """The fraction in the middle of two."""
    return ratio(one[0] * two[1] + two[0] * one[1], 2 * one[1] * two[1])


def is_square(number):
    """Whether a whole number from 0 on is the square of one."""
    return isqrt(number) * isqrt(number) == number


def is_square_ratio(one):
    """Whether a fraction from 0 on is the square of one."""
    return is_square(one[0]) and is_square(one[1])


def square_root(one):
    """The root of a fraction that is the square of one."""
    return (isqrt(one[0]), isqrt(one[1]))
