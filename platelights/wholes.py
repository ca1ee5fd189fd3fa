"""Whole numbers, rows of them, and what is wrong in a tuple."""

from math import gcd


def is_whole(value):
    """Whether a value is a whole number; True and False are none."""
    return type(value) is int


def has_word(value):
    """Whether a value is a tuple that begins with a string."""
    return type(value) is tuple and len(value) > 0 and type(value[0]) is str


def is_row(value, many):
    """Whether a value is a tuple of so many whole numbers."""
    return type(value) is tuple and len(value) == many and all([is_whole(part) for part in value])


def divisor_of(numbers):
    """The greatest common divisor of whole numbers, 0 if all are 0."""
    divisor = 0
    for number in numbers:
        divisor = gcd(divisor, number)
    return divisor


def is_reduced_row(value, many):
    """Whether a value is a tuple of so many whole numbers without a common divisor."""
    return is_row(value, many) and divisor_of(value) == 1


def reduced(numbers):
    """Whole numbers without their common divisor; noughts stay as they are."""
    divisor = max(divisor_of(numbers), 1)
    return tuple([number // divisor for number in numbers])


def sign_of(number):
    """-1, 0 or 1, as a whole number is below, at or above 0."""
    if number < 0:
        return -1
    return 1 if number > 0 else 0


def dot(row, other):
    """The sum of the products of two rows."""
    return sum([one * two for one, two in zip(row, other)])


def combined(one, row, two, other):
    """The row that is one number times a row and another number times another row."""
    return tuple([one * left + two * right for left, right in zip(row, other)])


def columns_of(rows):
    """The rows of a table turned over."""
    return tuple([tuple([row[at] for row in rows]) for at in range(len(rows))])


def rows_product(rows, other):
    """The product of two square tables of whole numbers."""
    columns = columns_of(other)
    return tuple([tuple([dot(row, column) for column in columns]) for row in rows])


def first_wrong(things, is_right, most):
    """The index of the first thing that is not right, or is one too many; None if there is none."""
    for index, thing in enumerate(things):
        if index == most or not is_right(thing):
            return index
    return None
