"""Tables that are made of matrices, tables that keep lights, and what shows that others are not or do not."""

from math import isqrt

from platelights.cones import is_never_below, light_below
from platelights.errors import InvalidRow
from platelights.forms import form_weight, row_below, squares_of
from platelights.gaussians import gaussian_divisor, gaussian_sum, is_gaussian_row, multiplied, reduced_gaussians
from platelights.lights import crossed, in_cone
from platelights.ratios import ratio, ratio_product
from platelights.tables import check_table
from platelights.wholes import columns_of, dot, reduced

_PLAIN = (1, 0, 0, 0, 1)


def _block(row):
    """The two rows of two Gaussians that a row of a table makes."""
    return (((row[0] + row[1], 0), (row[2], row[3])), ((row[2], -row[3]), (row[0] - row[1], 0)))


def _mixed(block, factor, other):
    """A block plus a Gaussian times another block."""
    return [
        [gaussian_sum((one, multiplied(factor, two))) for one, two in zip(line, beside)]
        for line, beside in zip(block, other)
    ]


def _beside(block, other):
    """The rows of two blocks that stand side by side."""
    return [(*line, *beside) for line, beside in zip(block, other)]


def companion(table):
    """The companion of a table: four rows of four Gaussians, and what they are over."""
    check_table(table)
    r0, r1, r2, r3 = [_block(row) for row in table[0]]
    above = _beside(_mixed(r0, (1, 0), r1), _mixed(r2, (0, -1), r3))
    beneath = _beside(_mixed(r2, (0, 1), r3), _mixed(r0, (-1, 0), r1))
    return ((*above, *beneath), table[1])


def weight(table, row):
    """The weight of a row of four Gaussians under the companion of a table."""
    form, below = companion(table)
    if not is_gaussian_row(row, 4):
        raise InvalidRow(row)
    return ratio(form_weight(form, row), below)


def barring_row(table):
    """A row of four Gaussians with a weight below 0; None if the table is made."""
    return row_below(companion(table)[0])


def is_made(table):
    """Whether a table is a sum of tables of matrices times fractions from 0 on."""
    return barring_row(table) is None


def _part_of(step, below):
    """The matrix and the fraction that make a square, of the companion of which the numbers are over a whole one."""
    _, column, part = step
    divisor = gaussian_divisor(column)
    x, y, z, w = reduced_gaussians(column)
    # The companion of a matrix's table has twice the products of its numbers.
    return (((x, y), (z, w)), ratio_product(part, ratio(divisor * divisor, 2 * below)))


def parts_of(table):
    """The fewest matrices and fractions of which a table is made; None if it is not made."""
    if not is_made(table):
        return None
    form, below = companion(table)
    steps, _ = squares_of(form)
    return tuple([_part_of(step, below) for step in steps])


def made_rank(table):
    """The least number of matrices of which a table is made; None if it is not made."""
    parts = parts_of(table)
    return None if parts is None else len(parts)


def _product_form(table):
    """The form that the product of what a table makes of a light with itself is."""
    columns = columns_of(table[0])
    return [[crossed(column, other) for other in columns] for column in columns]


def keeps_lights(table):
    """Whether a table leads every light to a light."""
    check_table(table)
    return in_cone(table[0][0]) and is_never_below(_product_form(table))


def _darkened_light(row):
    """A light that a first row which is no light leads below 0."""
    if row[0] < 0:
        return _PLAIN
    size, scale = dot(row[1:], row[1:]), 1
    level = isqrt(size) + 1
    # Along the row's opposite it is below 0; the finer the scale, the closer the light is to a pure one.
    while row[0] * level >= scale * size:
        scale *= 4 * scale
        level = isqrt(scale * scale * size) + 1
    numbers = reduced((level, *[-scale * number for number in row[1:]]))
    return (*numbers, 1)


def lost_light(table):
    """A light that a table leads to no light; None if there is none."""
    check_table(table)
    if not in_cone(table[0][0]):
        return _darkened_light(table[0][0])
    return light_below(_product_form(table))
