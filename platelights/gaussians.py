"""Gaussians, pairs of whole numbers x + i y, and rows and tables of them."""

from platelights.wholes import divisor_of, is_row

NOUGHT = (0, 0)


def is_gaussian(value):
    """Whether a value is a Gaussian."""
    return is_row(value, 2)


def is_gaussian_row(value, many):
    """Whether a value is a tuple of so many Gaussians."""
    return type(value) is tuple and len(value) == many and all([is_gaussian(part) for part in value])


def conjugated(one):
    """A Gaussian with the other sign of its second part."""
    return (one[0], -one[1])


def multiplied(one, two):
    """The product of two Gaussians."""
    return (one[0] * two[0] - one[1] * two[1], one[0] * two[1] + one[1] * two[0])


def taken(one, many):
    """A Gaussian times a whole number."""
    return (one[0] * many, one[1] * many)


def gaussian_sum(gaussians):
    """The sum of Gaussians."""
    return (sum([one[0] for one in gaussians]), sum([one[1] for one in gaussians]))


def gaussian_dot(row, other):
    """The sum of the products of two rows of Gaussians."""
    return gaussian_sum([multiplied(one, two) for one, two in zip(row, other)])


def conjugated_row(row):
    """The Gaussians of a row, each conjugated."""
    return tuple([conjugated(one) for one in row])


def gaussian_product(rows, other):
    """The product of two square tables of Gaussians."""
    columns = [[row[at] for row in other] for at in range(len(other))]
    return tuple([tuple([gaussian_dot(row, column) for column in columns]) for row in rows])


def adjoint(rows):
    """A square table of Gaussians turned over and conjugated."""
    return tuple([conjugated_row([row[at] for row in rows]) for at in range(len(rows))])


def trace_of(rows):
    """The sum of the diagonal of a square table of Gaussians."""
    return gaussian_sum([row[at] for at, row in enumerate(rows)])


def gaussian_divisor(row):
    """The greatest whole number that divides all parts of a row of Gaussians, 0 if all are 0."""
    return divisor_of([divisor_of(one) for one in row])


def divided_row(row, divisor):
    """A row of Gaussians divided by a whole number that divides all their parts."""
    return tuple([(one[0] // divisor, one[1] // divisor) for one in row])


def reduced_gaussians(row):
    """A row of Gaussians without their common whole divisor; noughts stay as they are."""
    return divided_row(row, max(gaussian_divisor(row), 1))
