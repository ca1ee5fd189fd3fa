"""Further looks at an unknown light: between which levels they read, and what some readings settle already."""

from platelights.errors import NoLightFits
from platelights.fractions import surd_of
from platelights.lights import check_look, crossed, mirrored
from platelights.ratios import ratio, ratio_sum
from platelights.readings import check_reading, check_readings, equation_of, space_of_readings
from platelights.spaces import hull_of, lights_within, others_than_rim, part_within, upright_part
from platelights.wholes import dot

_NOUGHT = (0, 1)
_ZERO = ((0, 1), 0, (0, 1))


def _read(look, row):
    """What a look reads of five numbers, a light or not."""
    return ratio(dot(look, row[:4]), row[4])


def _square(row):
    """The product of five numbers with themselves."""
    return ratio(crossed(row[:4], row[:4]), row[4] * row[4])


def _inward_range(look, space):
    """The range of a look in a space with inward steps."""
    part = _square(part_within(mirrored(look), space.steps))
    centre = _square(space.centre)
    low = surd_of(_read(look, space.centre), 1, ratio(-part[0] * centre[0], part[1] * centre[1]))
    return (low, part[0] != 0 or centre[0] == 0, None, False)


def _outward_range(look, space):
    """The range of a look in a space with outward steps."""
    part = _square(part_within(mirrored(look), space.steps))
    centre = _square(space.centre)
    middle, square = _read(look, space.centre), ratio(-part[0] * centre[0], part[1] * centre[1])
    return (surd_of(middle, -1, square), True, surd_of(middle, 1, square), True)


def _least_grazing(look, space):
    """The least level of a look, not 0 at the rim, over the lights of a space with grazing steps that are no ray."""
    others = others_than_rim(space)
    row, part = upright_part(space.start, others), _square(part_within(mirrored(look), others))
    side, slope, size = ratio(crossed(row[:4], space.rim), row[4]), dot(look, space.rim), _square(row)
    # Along the rim the row comes to the cone; from there on the steps beside the rim cost their square, and may gain.
    cone = ratio(-slope * size[0] * side[1], 2 * size[1] * side[0])
    gain = ratio(side[0] * part[0], 2 * slope * side[1] * part[1])
    return ratio_sum(_read(look, row), ratio_sum(cone, gain))


def _grazing_range(look, space):
    """The range of a look in a space with grazing steps."""
    slope = dot(look, space.rim)
    if slope == 0:
        level = (_read(look, space.start), 0, _NOUGHT)
        return (level, True, level, True)
    if lights_within(space) == "ray":
        return (_ZERO, True, None, False)
    return ((_least_grazing(look, space), 0, _NOUGHT), True, None, False)


def level_range(readings, look):
    """The least and the greatest level that a look may read of the lights that fit, each with whether it is read."""
    check_readings(readings)
    check_look(look)
    space = space_of_readings(readings)
    if lights_within(space) == "none":
        raise NoLightFits()
    if space.lean == "inward":
        return _inward_range(look, space)
    return _outward_range(look, space) if space.lean == "outward" else _grazing_range(look, space)


def _hull(readings):
    """A row and steps that lead to all lights that fit some readings, some of which do."""
    hull = hull_of(space_of_readings(readings))
    if hull is None:
        raise NoLightFits()
    return hull


def _settled(readings, look):
    """The level that a look reads of all lights that fit; None if it is not one."""
    start, steps = _hull(readings)
    return None if any([dot(look, step) for step in steps]) else _read(look, start)


def is_settled(readings, look):
    """Whether a look reads one level of all lights that fit some readings."""
    return settled_level(readings, look) is not None


def settled_level(readings, look):
    """The level that a look reads of all lights that fit some readings; None if it is not settled."""
    check_readings(readings)
    check_look(look)
    return _settled(readings, look)


def settled_ratio(readings, look, other):
    """How many times as much a look reads as another one, of all lights that fit; None if that is not one fraction."""
    check_readings(readings)
    check_look(look)
    check_look(other)
    start, steps = _hull(readings)
    pairs = [(dot(look, row), dot(other, row)) for row in [start[:4], *steps]]
    seen = [pair for pair in pairs if pair[1] != 0]
    if len(seen) == 0:
        return None
    own, beside = seen[0]
    return ratio(own, beside) if all([own * two == one * beside for one, two in pairs]) else None


def _is_kept(hull, reading):
    """Whether a row and all that steps lead to keep a reading."""
    start, steps = hull
    row, number, _ = equation_of(reading)
    return dot(row, start[:4]) == number * start[4] and not any([dot(row, step) for step in steps])


def is_kept(readings, reading):
    """Whether all lights that fit some readings keep a further one."""
    check_readings(readings)
    check_reading(reading)
    return _is_kept(_hull(readings), reading)


def needed(readings):
    """The indexes of the readings that are left if from the last on each one is left out that the others settle."""
    check_readings(readings)
    _hull(readings)
    kept = list(range(len(readings)))
    for index in reversed(range(len(readings))):
        others = [at for at in kept if at != index]
        if _is_kept(_hull([readings[at] for at in others]), readings[index]):
            kept = others
    return tuple(kept)


def looks_wanted(readings):
    """How many further looks, well chosen, tell the light, whatever they read."""
    check_readings(readings)
    return len(_hull(readings)[1])


def say_the_same(readings, others):
    """Whether the same lights fit two tuples of readings."""
    check_readings(readings)
    check_readings(others)
    hull, beside = hull_of(space_of_readings(readings)), hull_of(space_of_readings(others))
    if hull is None or beside is None:
        return hull is None and beside is None
    if not all([_is_kept(hull, reading) for reading in others]):
        return False
    return all([_is_kept(beside, reading) for reading in readings])
