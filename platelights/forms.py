"""Hermitian forms of Gaussians, taken apart into squares by steps of Gauss."""

from platelights.gaussians import NOUGHT, conjugated, conjugated_row, divided_row, gaussian_divisor, gaussian_dot
from platelights.gaussians import gaussian_sum, multiplied, reduced_gaussians, taken
from platelights.ratios import ratio, ratio_product
from platelights.wholes import divisor_of


def form_weight(form, row):
    """What a form makes of a row: the row conjugated times the form times the row, a whole number."""
    led = [gaussian_dot(line, row) for line in form]
    return gaussian_dot(conjugated_row(row), led)[0]


def _first_above(form):
    """The first index at which the diagonal of a form is above 0; None if there is none."""
    for index, line in enumerate(form):
        if line[index][0] > 0:
            return index
    return None


def _less_square(form, column, size):
    """A form times a size, less a column times its conjugated row: the form, and what it was divided by."""
    rows = []
    for one, line in zip(column, form):
        square = [multiplied(taken(one, -1), conjugated(two)) for two in column]
        rows.append([gaussian_sum((taken(entry, size), part)) for entry, part in zip(line, square)])
    divisor = max(divisor_of([gaussian_divisor(row) for row in rows]), 1)
    return [divided_row(row, divisor) for row in rows], divisor


def squares_of(form):
    """The steps by which squares are taken off a form, and the form that is left.

    Each step is (index, column, part): part times the column times its conjugated row is taken off, and nothing is
    left at the index. No number on the diagonal of the form that is left is above 0.
    """
    steps, left, factor = [], form, (1, 1)
    index = _first_above(left)
    while index is not None:
        column = tuple([line[index] for line in left])
        size = column[index][0]
        steps.append((index, column, ratio_product(factor, (1, size))))
        left, divisor = _less_square(left, column, size)
        factor = ratio_product(factor, ratio(divisor, size))
        index = _first_above(left)
    return steps, left


def _unit_row(index, one):
    """The row of four Gaussians with one of them at an index and noughts elsewhere."""
    return [one if at == index else NOUGHT for at in range(4)]


def _row_below_left(left):
    """A row to which a form without numbers above 0 on its diagonal gives a weight below 0; None if it is 0."""
    for index, line in enumerate(left):
        for place, entry in enumerate(line):
            if entry != NOUGHT:
                # The mixed terms give minus twice the square of the entry's length, the diagonal nothing above 0.
                row = _unit_row(index, taken(entry, -1))
                row[place] = (1, 0)
                return row
    return None


def _row_before(row, step):
    """A row to which the form before a step gives the weight, but for a square, that the form behind it gives."""
    index, column, _ = step
    # The row is chosen upright on the column, so that the square that was taken off adds nothing.
    before = [taken(one, column[index][0]) for one in row]
    before[index] = taken(gaussian_dot(conjugated_row(column), row), -1)
    return reduced_gaussians(before)


def row_below(form):
    """A row of four Gaussians to which a form gives a weight below 0; None if there is none."""
    steps, left = squares_of(form)
    row = _row_below_left(left)
    if row is None:
        return None
    for step in reversed(steps):
        row = _row_before(row, step)
    return tuple(row)
