"""Readings of unknown lights for the tests: of all sorts, turned and boosted into all directions, and lights that fit."""

from fractions import Fraction
from math import gcd, lcm

from platelights.fractions import nearest
from platelights.ranges import level_range
from platelights.readings import any_light
from tests.reckon import dot, keeps, multiplied, numbers_of, pair_of, product, rank, rows_of_turn
from tests.values import Draw

PLAIN, PURE, LONG = (1, 0, 0, 0), (1, 1, 0, 0), (2, 1, 0, 0)
ACROSS, SLANT, AROUND = (0, 1, 0, 0), (0, 0, 1, 0), (0, 0, 0, 1)

# Rows, numbers, which lights fit, how many looks are wanted, whether they may be dark and whether pure; then how the
# steps lean and the sign of what decides: of g(s*), or of h for grazing steps.
FAMILIES = (
    ((), (), "endless", 4, True, True, "inward", 0),
    (((0, 0, 0, 0),), (0,), "endless", 4, True, True, "inward", 0),
    ((ACROSS,), (0,), "endless", 3, True, True, "inward", 0),
    ((ACROSS,), (2,), "endless", 3, False, True, "inward", -1),
    (((1, 2, 0, 0),), (-3,), "endless", 3, False, True, "inward", -1),
    ((PURE,), (1,), "endless", 3, False, True, "grazing", 1),
    ((PURE,), (0,), "endless", 1, True, True, "grazing", 0),
    ((PURE,), (-1,), "none", None, False, False, "grazing", -1),
    ((PLAIN,), (2,), "some", 3, False, True, "outward", 1),
    ((LONG,), (3,), "some", 3, False, True, "outward", 1),
    ((PLAIN,), (0,), "one", 0, True, False, "outward", 0),
    ((PLAIN,), (-2,), "none", None, False, False, "outward", 1),
    ((SLANT, AROUND), (0, 0), "endless", 2, True, True, "inward", 0),
    ((SLANT, AROUND), (1, -3), "endless", 2, False, True, "inward", -1),
    ((PURE, SLANT), (2, 0), "endless", 2, False, True, "grazing", 1),
    ((PURE, SLANT), (1, -5), "endless", 2, False, True, "grazing", 1),
    ((PURE, SLANT), (0, 0), "endless", 1, True, True, "grazing", 0),
    ((PURE, SLANT), (0, 1), "none", None, False, False, "grazing", 0),
    ((PURE, SLANT), (-1, 1), "none", None, False, False, "grazing", -1),
    ((PLAIN, SLANT), (3, 1), "some", 2, False, True, "outward", 1),
    ((PLAIN, SLANT), (2, -2), "one", 0, False, True, "outward", 0),
    ((PLAIN, SLANT), (0, 0), "one", 0, True, False, "outward", 0),
    ((PLAIN, SLANT), (1, 2), "none", None, False, False, "outward", -1),
    ((PLAIN, SLANT), (0, 1), "none", None, False, False, "outward", -1),
    ((PLAIN, SLANT), (-2, 1), "none", None, False, False, "outward", 1),
    ((PLAIN, SLANT), (-1, 1), "none", None, False, False, "outward", 0),
    ((ACROSS, SLANT, AROUND), (0, 0, 0), "endless", 1, True, False, "inward", 0),
    ((ACROSS, SLANT, AROUND), (1, 2, 2), "endless", 1, False, True, "inward", -1),
    ((ACROSS, SLANT, AROUND), (1, 1, 0), "endless", 1, False, True, "inward", -1),
    ((PURE, SLANT, AROUND), (1, 0, 0), "endless", 1, False, True, "grazing", 1),
    ((PURE, SLANT, AROUND), (3, 2, -1), "endless", 1, False, True, "grazing", 1),
    ((PURE, SLANT, AROUND), (0, 0, 0), "endless", 1, True, True, "grazing", 0),
    ((PURE, SLANT, AROUND), (0, 0, 2), "none", None, False, False, "grazing", 0),
    ((PURE, SLANT, AROUND), (-2, 0, 2), "none", None, False, False, "grazing", -1),
    ((PLAIN, ACROSS, SLANT), (2, 1, 1), "some", 1, False, True, "outward", 1),
    ((PLAIN, ACROSS, SLANT), (2, 0, 0), "some", 1, False, True, "outward", 1),
    ((PLAIN, ACROSS, SLANT), (5, 3, 4), "one", 0, False, True, "outward", 0),
    ((PLAIN, ACROSS, SLANT), (0, 0, 0), "one", 0, True, False, "outward", 0),
    ((PLAIN, ACROSS, SLANT), (1, 1, 1), "none", None, False, False, "outward", -1),
    ((PLAIN, ACROSS, SLANT), (-3, 1, 1), "none", None, False, False, "outward", 1),
    ((PLAIN, ACROSS, SLANT), (-5, 3, 4), "none", None, False, False, "outward", 0),
    ((PLAIN, ACROSS, SLANT, AROUND), (2, 1, 1, 1), "one", 0, False, False, "outward", 1),
    ((PLAIN, ACROSS, SLANT, AROUND), (1, 0, 0, 0), "one", 0, False, False, "outward", 1),
    ((PLAIN, ACROSS, SLANT, AROUND), (3, 2, 2, 1), "one", 0, False, True, "outward", 0),
    ((PLAIN, ACROSS, SLANT, AROUND), (0, 0, 0, 0), "one", 0, True, False, "outward", 0),
    ((PLAIN, ACROSS, SLANT, AROUND), (1, 1, 1, 0), "none", None, False, False, "outward", -1),
    ((PLAIN, ACROSS, SLANT, AROUND), (-2, 1, 1, 0), "none", None, False, False, "outward", 1),
    ((PLAIN, ACROSS, SLANT, AROUND), (-1, 1, 0, 0), "none", None, False, False, "outward", 0),
    ((PLAIN, PLAIN), (1, 2), "none", None, False, False, None, None),
    (((0, 0, 0, 0),), (1,), "none", None, False, False, None, None),
    ((ACROSS, SLANT, (0, 2, 3, 0)), (1, 1, 4), "none", None, False, False, None, None),
)


def reading_of(row, number):
    """A reading with the equation of four whole numbers and a fraction, times a number above 0."""
    shift = (1, 0, 0) if row[1] + 1 or row[2] or row[3] else (0, 1, 0)
    swing = [int(one) + two for one, two in zip(row[1:], shift)]
    size = int(sum([abs(part) for part in row])) + 1
    while gcd(size + int(row[0]), *swing) != 1:
        size += 1
    return ("more", (size + int(row[0]), *swing), (size, *shift), pair_of(number))


def boosts(draw):
    """Sixteen numbers that leave all products as they are and lights lights: turned, boosted and turned again."""
    part = Fraction(draw.chance.choice((1, 2, 3)), 1)
    cosine, sine = (part * part + 1) / (2 * part), (part * part - 1) / (2 * part)
    boost = [[cosine, sine, 0, 0], [sine, cosine, 0, 0], [0, 0, 1, 0], [0, 0, 0, 1]]
    return multiplied(rows_of_turn(draw.turn(2)), multiplied(boost, rows_of_turn(draw.turn(2))))


def led_back(row, boost):
    """The row that makes of what a boost leads numbers to what a row makes of these."""
    back = [row[0], -row[1], -row[2], -row[3]]
    led = [dot(line, back) for line in boost]
    return [led[0], -led[1], -led[2], -led[3]]


def mixed_equations(draw, rows, numbers, many):
    """Equations, at least so many, that say the same as rows and numbers: sums of them, in any order."""
    pairs = [([Fraction(part) for part in row], Fraction(number)) for row, number in zip(rows, numbers)]
    for at in range(len(pairs)):
        for place in range(len(pairs)):
            part = draw.chance.choice((-1, 0, 0, 0, 1, 2)) if place != at else 0
            row, number = pairs[at]
            pairs[at] = ([one + part * two for one, two in zip(row, pairs[place][0])], number + part * pairs[place][1])
    while 0 < len(pairs) < many:
        (row, number), (other, beside) = draw.chance.choice(pairs), draw.chance.choice(pairs)
        pairs.append(([one - 2 * two for one, two in zip(row, other)], number - 2 * beside))
    draw.chance.shuffle(pairs)
    return pairs


def turned_readings(draw, family, many=0):
    """Readings of the sort of a family, boosted and mixed."""
    boost = boosts(draw)
    rows = [led_back(row, boost) for row in family[0]]
    readings = []
    for row, number in mixed_equations(draw, rows, family[1], many):
        below = lcm(*[part.denominator for part in row])
        readings.append(reading_of([part * below for part in row], number * below))
    return tuple(readings)


def plain_readings(family):
    """The readings of a family as they stand."""
    return tuple([reading_of(row, number) for row, number in zip(family[0], family[1])])


def all_readings(seed, many):
    """Pairs of a family and readings of its sort, so many of each, the first ones as they stand."""
    draw = Draw(seed)
    pairs = []
    for family in FAMILIES:
        pairs.append((family, plain_readings(family)))
        pairs += [(family, turned_readings(draw, family, draw.chance.randint(0, 6))) for _ in range(many)]
    return pairs


def fits_all(light, readings):
    """Whether a told light is a light and keeps all readings."""
    numbers = numbers_of(light)
    return numbers[0] >= 0 and product(numbers, numbers) >= 0 and all([keeps(numbers, one) for one in readings])


def some_that_fit(draw, readings, wanted):
    """Lights that fit at most six readings, of which the differences span so many dimensions, by levels within ranges."""
    found = [any_light(readings)]
    for _ in range(60):
        rows = [[one - two for one, two in zip(numbers_of(light), numbers_of(found[0]))] for light in found]
        if rank(rows) >= wanted:
            break
        levels = ()
        for look in (draw.look(), draw.look()):
            low, _, high, _ = level_range(readings + levels, look)
            least = Fraction(nearest(low, 6) + 2, 10 ** 6)
            most = Fraction(nearest(high, 6) - 1, 10 ** 6) if high is not None else least + 7
            if least < most:
                levels += (("level", look, pair_of(least + (most - least) * Fraction(draw.chance.randint(1, 7), 8))),)
        light = any_light(readings + levels)
        if light is not None:
            found.append(light)
    assert all([fits_all(light, readings) for light in found])
    return found

