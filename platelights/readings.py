"""Readings of an unknown light: which lights fit them, and what shows that none does."""

from platelights.equations import odd_weights, weights_to
from platelights.errors import InvalidReading, InvalidReadings
from platelights.fractions import is_fraction
from platelights.lights import check_light, crossed, is_look, mirrored
from platelights.spaces import barring_light, light_within, lights_within, space_of
from platelights.wholes import combined, dot, first_wrong, has_word, reduced

_MOST_READINGS = 8
_NOUGHT = (0, 1)


def is_reading(value):
    """Whether a value is a reading."""
    if not has_word(value):
        return False
    word, parts = value[0], value[1:]
    if word == "level":
        return len(parts) == 2 and is_look(parts[0]) and is_fraction(parts[1])
    if word != "ratio" and word != "more":
        return False
    return len(parts) == 3 and is_look(parts[0]) and is_look(parts[1]) and is_fraction(parts[2])


def are_readings(value):
    """Whether a value is a tuple of at most eight readings."""
    return type(value) is tuple and first_wrong(value, is_reading, _MOST_READINGS) is None


def check_reading(value):
    """Raise an error for what is no reading."""
    if not is_reading(value):
        raise InvalidReading(value)


def check_readings(value):
    """Raise an error for what is no tuple of at most eight readings."""
    if type(value) is not tuple:
        raise InvalidReadings(None)
    index = first_wrong(value, is_reading, _MOST_READINGS)
    if index is not None:
        raise InvalidReadings(index)


def equation_of(reading):
    """The equation of a reading: a row of four whole numbers, the number that it makes, and what both are over."""
    p, q = reading[-1]
    look = reading[1]
    if reading[0] == "level":
        return tuple([q * number for number in look]), p, q
    if reading[0] == "ratio":
        return combined(q, look, -p, reading[2]), 0, q
    return combined(q, look, -q, reading[2]), p, q


def number_of(reading):
    """The number that the row of a reading makes of the lights that fit."""
    return _NOUGHT if reading[0] == "ratio" else reading[-1]


def keeps_reading(light, reading):
    """Whether a light keeps a reading."""
    row, number, _ = equation_of(reading)
    return dot(row, light[:4]) == number * light[4]


def keeps_all(light, readings):
    """Whether a light keeps all of some readings."""
    return all([keeps_reading(light, reading) for reading in readings])


def space_of_readings(readings):
    """The space of all rows that keep some readings; None if there are none."""
    equations = [equation_of(reading) for reading in readings]
    return space_of([row for row, _, _ in equations], [number for _, number, _ in equations])


def weighed(readings, weights):
    """The sum of the equations of readings times fractions: a row and a number, five in all, and what they are over."""
    total, whole = (0, 0, 0, 0, 0), 1
    for reading, weight in zip(readings, weights):
        row, number, below = equation_of(reading)
        own = below * weight[1]
        total = combined(own, total, whole * weight[0], (*row, number))
        whole *= own
    return total, whole


def weights_of_row(readings, row):
    """Whole numbers over one above 0 by which the rows of readings, at least one, add up to a row; None."""
    equations = [equation_of(reading) for reading in readings]
    told = weights_to([equation[0] for equation in equations], row)
    if told is None:
        return None
    return [weight * equation[2] for weight, equation in zip(told[0], equations)], told[1]


def fits(light, readings):
    """Whether a light keeps all of some readings."""
    check_light(light)
    check_readings(readings)
    return keeps_all(light, readings)


def what_fits(readings):
    """What lights fit some readings: none, one, some or endless."""
    check_readings(readings)
    sort = lights_within(space_of_readings(readings))
    return "endless" if sort == "ray" else sort


def any_light(readings):
    """A light that fits some readings; None if none does."""
    check_readings(readings)
    return light_within(space_of_readings(readings))


def _odd_bar(readings):
    """The paper by which equations bar every light that no row keeps."""
    equations = [equation_of(reading) for reading in readings]
    weights = odd_weights([row for row, _, _ in equations], [number for _, number, _ in equations])
    return ("equations", reduced([weight * equation[2] for weight, equation in zip(weights, equations)]))


def _bar_of_space(readings, space):
    """The paper by which a look bars every light, for readings that some rows keep."""
    light = barring_light(space)
    weights = reduced(weights_of_row(readings, mirrored(light))[0])
    if crossed(light, space.start[:4]) < 0:
        return ("look", weights)
    # All rows are 0 at this light, so any reading with a number other than 0 bars its multiples.
    return ("edge", weights, [number_of(reading) != _NOUGHT for reading in readings].index(True))


def bar(readings):
    """The paper that shows that no light fits some readings; None if some light does."""
    check_readings(readings)
    space = space_of_readings(readings)
    if space is None:
        return _odd_bar(readings)
    return _bar_of_space(readings, space) if lights_within(space) == "none" else None


def may_be_dark(readings):
    """Whether the dark light fits some readings."""
    check_readings(readings)
    return all([number_of(reading) == _NOUGHT for reading in readings])


def may_be_plain(readings):
    """Whether some plain light fits some readings."""
    check_readings(readings)
    equations = [equation_of(reading) for reading in readings]
    tied = [(row[0], number) for row, number, _ in equations if row[0] != 0 or number != 0]
    if len(tied) == 0:
        return True
    first, level = tied[0]
    return first * level > 0 and all([first * number == row * level for row, number in tied])


def may_be_pure(readings):
    """Whether some pure light, told by whole numbers or not, fits some readings."""
    check_readings(readings)
    space = space_of_readings(readings)
    sort = lights_within(space)
    if sort == "one":
        centre = space.centre[:4]
        return centre[0] > 0 and crossed(centre, centre) == 0
    if sort == "endless" and space.lean == "inward":
        # The lights along one step from the dark one are multiples of one that is not pure.
        return len(space.steps) > 1 or any(space.centre[:4])
    return sort != "none"
