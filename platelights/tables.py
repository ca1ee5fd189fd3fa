"""Tables of sixteen numbers, and what they make of lights."""

from platelights.equations import rank_of
from platelights.errors import InvalidImages, InvalidRows, InvalidTable, NoLight
from platelights.fractions import check_below, check_fraction, compare, surd_of
from platelights.lights import check_light, check_lights, is_light
from platelights.ratios import ratio
from platelights.wholes import columns_of, combined, divisor_of, dot, first_wrong, is_reduced_row, is_row, is_whole
from platelights.wholes import reduced, rows_product

_UNIT_ROWS = ((1, 0, 0, 0), (0, 1, 0, 0), (0, 0, 1, 0), (0, 0, 0, 1))
_ONE = ((1, 1), 0, (0, 1))


def are_rows(value):
    """Whether a value is four rows of four whole numbers each."""
    return type(value) is tuple and len(value) == 4 and all([is_row(row, 4) for row in value])


def is_table(value):
    """Whether a value is a table."""
    if type(value) is not tuple or len(value) != 2:
        return False
    rows, below = value
    if not (are_rows(rows) and is_whole(below) and below > 0):
        return False
    return divisor_of((*[divisor_of(row) for row in rows], below)) == 1


def check_table(value):
    """Raise an error for what is no table."""
    if not is_table(value):
        raise InvalidTable(value)


def reduced_table(rows, below):
    """The table of four rows of four whole numbers over one above 0."""
    divisor = divisor_of((*[divisor_of(row) for row in rows], below))
    return (tuple([tuple([number // divisor for number in row]) for row in rows]), below // divisor)


def table_of(rows, below):
    """The table of four rows of four whole numbers over one above 0."""
    if not are_rows(rows):
        raise InvalidRows(rows)
    check_below(below)
    return reduced_table(rows, below)


def unit():
    """The table that leads each light to itself."""
    return (_UNIT_ROWS, 1)


def table_sum(table, other):
    """The sum of two tables."""
    check_table(table)
    check_table(other)
    (rows, below), (other_rows, other_below) = table, other
    added_rows = [combined(other_below, row, below, beside) for row, beside in zip(rows, other_rows)]
    return reduced_table(added_rows, below * other_below)


def table_product(table, other):
    """The table that leads to what the first one makes of what the other one leads to."""
    check_table(table)
    check_table(other)
    return reduced_table(rows_product(table[0], other[0]), table[1] * other[1])


def table_times(table, part):
    """A table times a fraction, which may be below 0."""
    check_table(table)
    check_fraction(part)
    rows, below = table
    return reduced_table([[part[0] * number for number in row] for row in rows], part[1] * below)


def led_numbers(table, light):
    """The five numbers of what a table makes of a light, whether or not they are a light."""
    check_table(table)
    check_light(light)
    rows, below = table
    return reduced((*[dot(row, light[:4]) for row in rows], below * light[4]))


def led_light(table, light):
    """The light that a table makes of a light."""
    numbers = led_numbers(table, light)
    if not is_light(numbers):
        raise NoLight(numbers)
    return numbers


def _end_of_share(table, side):
    """The share at one end: the first number of a table, plus or minus the length of the rest of its row."""
    check_table(table)
    rows, below = table
    first, rest = rows[0][0], rows[0][1:]
    return surd_of(ratio(first, below), side, ratio(dot(rest, rest), below * below))


def greatest_share(table):
    """The greatest share that a table lets through of a light."""
    return _end_of_share(table, 1)


def least_share(table):
    """The least share that a table lets through of a light."""
    return _end_of_share(table, -1)


def brightens(table):
    """Whether some light comes out brighter than it was."""
    return compare(greatest_share(table), _ONE) > 0


def _is_image(value):
    """Whether a value is five numbers like those of a light."""
    return is_reduced_row(value, 5) and value[4] > 0


def _check_images(value):
    """Raise an error for what is no tuple of four images."""
    if type(value) is not tuple or len(value) != 4:
        raise InvalidImages(None)
    index = first_wrong(value, _is_image, 4)
    if index is not None:
        raise InvalidImages(index)


def table_from(images):
    """The table that leads the four lights that tell a table to four told rows of numbers."""
    _check_images(images)
    below = 1
    for image in images:
        below *= image[4]
    whole = [[number * (below // image[4]) for number in image[:4]] for image in images]
    # The last three lights are plain light and one swing each, so the swing's column is a difference.
    columns = [whole[0]] + [combined(1, column, -1, whole[0]) for column in whole[1:]]
    return reduced_table(columns_of(columns), below)


def tell_table(lights):
    """Whether no two tables make the same of each of some lights."""
    check_lights(lights)
    return rank_of([light[:4] for light in lights]) == 4


def is_told(lights, light):
    """Whether what a table makes of some lights tells what it makes of a further one."""
    check_lights(lights)
    check_light(light)
    rows = [other[:4] for other in lights]
    return rank_of([*rows, light[:4]]) == rank_of(rows)
