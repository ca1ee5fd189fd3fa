"""Lights, kinds and looks: rows of whole numbers on and within the cone."""

from platelights.errors import Dark, InvalidKind, InvalidLight, InvalidLights, InvalidLook, InvalidNumbers
from platelights.fractions import check_below, check_positive_fraction, check_whole
from platelights.ratios import ratio
from platelights.wholes import combined, dot, first_wrong, is_reduced_row, is_row, reduced

_DARK = (0, 0, 0, 0, 1)
_MOST_LIGHTS = 8


def crossed(row, other):
    """The product of two rows of four numbers: that of the first ones less those of the others."""
    return row[0] * other[0] - dot(row[1:], other[1:])


def mirrored(row):
    """The row of which the product with another one is the plain sum of products with it."""
    return (row[0], -row[1], -row[2], -row[3])


def in_cone(row):
    """Whether four whole numbers are those of a light, but for a common divisor."""
    return row[0] >= 0 and crossed(row, row) >= 0


def is_light(value):
    """Whether a value is a light."""
    return is_reduced_row(value, 5) and value[4] > 0 and in_cone(value[:4])


def is_kind(value):
    """Whether a value is a kind."""
    return is_reduced_row(value, 4) and value[3] > 0 and dot(value[:3], value[:3]) == value[3] * value[3]


def is_look(value):
    """Whether a value is a look."""
    return is_reduced_row(value, 4) and in_cone(value)


def check_light(value):
    """Raise an error for what is no light."""
    if not is_light(value):
        raise InvalidLight(value)


def check_kind(value):
    """Raise an error for what is no kind."""
    if not is_kind(value):
        raise InvalidKind(value)


def check_look(value):
    """Raise an error for what is no look."""
    if not is_look(value):
        raise InvalidLook(value)


def are_lights(value):
    """Whether a value is a tuple of at most eight lights."""
    return type(value) is tuple and first_wrong(value, is_light, _MOST_LIGHTS) is None


def check_lights(value):
    """Raise an error for what is no tuple of at most eight lights."""
    if type(value) is not tuple:
        raise InvalidLights(None)
    index = first_wrong(value, is_light, _MOST_LIGHTS)
    if index is not None:
        raise InvalidLights(index)


def read_level(look, light):
    """The level that a look reads of a light."""
    check_look(look)
    check_light(light)
    return ratio(dot(look, light[:4]), light[4])


def light_of(numbers, below):
    """The light of four whole numbers over one above 0."""
    if not is_row(numbers, 4):
        raise InvalidNumbers(numbers)
    check_below(below)
    light = reduced((*numbers, below))
    check_light(light)
    return light


def added(light, other):
    """The sum of two lights."""
    check_light(light)
    check_light(other)
    numbers = combined(other[4], light[:4], light[4], other[:4])
    return reduced((*numbers, light[4] * other[4]))


def times(light, part):
    """A light times a fraction from 0 on."""
    check_light(light)
    check_positive_fraction(part)
    return reduced((*[part[0] * number for number in light[:4]], part[1] * light[4]))


def purity(light):
    """The square of the share of a light that is pure."""
    check_light(light)
    if light == _DARK:
        raise Dark()
    return ratio(dot(light[1:4], light[1:4]), light[0] * light[0])


def kind_of(light):
    """The kind of a pure light; None for other lights."""
    check_light(light)
    if light == _DARK or crossed(light[:4], light[:4]) > 0:
        return None
    return reduced((*light[1:4], light[0]))


def pure_light(kind):
    """The light of a kind with brightness 1."""
    check_kind(kind)
    return (kind[3], kind[0], kind[1], kind[2], kind[3])


def opposite_kind(kind):
    """The kind opposite to a kind."""
    check_kind(kind)
    return (-kind[0], -kind[1], -kind[2], kind[3])


def lens(x, y, below):
    """The kind that stands for the point x, y over a whole number above 0."""
    check_whole(x)
    check_whole(y)
    check_below(below)
    size = x * x + y * y
    square = below * below
    return reduced((2 * x * below, 2 * y * below, square - size, square + size))


def product(light, other):
    """The product of two lights."""
    check_light(light)
    check_light(other)
    return ratio(crossed(light[:4], other[:4]), light[4] * other[4])


def split(light, kind):
    """The part of a kind and the pure rest that add up to a light."""
    check_light(light)
    check_kind(kind)
    numbers, along = light[:4], (kind[3], kind[0], kind[1], kind[2])
    size, shared = crossed(numbers, numbers), crossed(numbers, along)
    if shared == 0:
        return (light, _DARK)
    # The part is size / (2 * shared * light[4]) times the kind's light; the rest is what is left.
    part = [size * number for number in along]
    rest = combined(2 * shared, numbers, -1, part)
    below = 2 * shared * light[4]
    return (reduced((*part, below)), reduced((*rest, below)))
