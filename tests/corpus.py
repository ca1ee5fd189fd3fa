"""Claims of all sorts with papers that show them, and the same bent at one place, for the tests of the checker."""

from fractions import Fraction

from platelights import certificates
from platelights.courses import course_of, level_course
from platelights.fringes import sharper
from platelights.plates import table_of_stack
from platelights.turns import turned_light
from tests.cases import PRICKLY
from tests.judge import made_rank
from tests.reckon import mixed_rows, row_of, table_of_numbers
from tests.unknown import all_readings
from tests.values import ALONG, GLASS, HALF, NOUGHT, SLANT, UNIT, UPRIGHT, Draw, reduced

MAGNET, RIGHT = ("magnet", (1, 1)), ("polariser", (0, 0, 1, 1))
ONE_WAY = (
    (ALONG, MAGNET, SLANT), (HALF, ALONG, ("set", (1, 3), MAGNET), SLANT, ("glass",)),
    (UPRIGHT, ("magnet", (-1, 1)), SLANT),
)
NOTHING_BACK = ONE_WAY + (
    (ALONG, MAGNET), (ALONG, ("turner", (1, 0, 1, 0))), (("dull", (1, 2)), UPRIGHT, ("turner", (1, 0, -1, 0))),
)
LINES = (
    (-2, 0, 1), (0, 0, 0), (1, 2, 1), (0, 1, 0), (1, 0, 0), (0, 0, 1), (1, -2, 1), (2, 4, 1), (-1, 1, 1), (0, 1, 1),
    (1, 0, -4), (3, 1, -1),
)


def course_of_square(line, below=1):
    """The course of the square of a form of three numbers."""
    g0, g1, g2 = line
    return course_of((g0 * g0, 2 * g0 * g1, 2 * g0 * g2 + g1 * g1, 2 * g1 * g2, g2 * g2), below)


def of_plates(draw):
    """Claims about stacks and tables."""
    stack, other, light = draw.stack(3), draw.stack(3), draw.light(2)
    for table in (draw.table(1), table_of_stack(stack), GLASS, UNIT, NOUGHT):
        yield certificates.certify_keeper(table)
        yield certificates.certify_made(table)
        rank = made_rank(table)
        if rank is not None:
            yield (("rank", table, rank), ())
    yield certificates.certify_stacks(stack, other)
    yield certificates.certify_stacks(stack + (("set", (1, 1), MAGNET),), stack + (MAGNET,))
    for some in (stack, (), (ALONG,), (HALF,), other + (HALF,), (("dull", (1, 2)),)):
        yield certificates.certify_rounds(some)
        yield certificates.certify_level(some, light)
    yield (("one way", draw.chance.choice(ONE_WAY)), ())
    yield (("nothing back", draw.chance.choice(NOTHING_BACK)), ())


def of_turns(draw):
    """Claims about turns and what comes back."""
    turn, lights = draw.turn(1), [draw.light(2) for _ in range(3)] + [draw.pure(2)]
    fitting = tuple([(light, turned_light(light, turn)) for light in lights])
    yield certificates.certify_pairs(fitting)
    yield certificates.certify_pairs(fitting + ((lights[0], draw.light(2)),))
    yield certificates.certify_pairs(tuple([(light, (*light[:3], -light[3], light[4])) for light in lights]))
    yield certificates.certify_pairs(fitting[:1] + ((lights[1], reduced((*lights[1][:4], lights[1][4] + 1))),))
    yield certificates.certify_pairs(())
    yield certificates.certify_turn(turn)
    yield certificates.certify_turn(draw.turn(3))
    for light in lights[-1:] + [(2, 1, 0, 1, 1)]:
        yield certificates.certify_return((("turner", turn),), light)
        yield certificates.certify_return(draw.stack(2), light)


def of_beams(draw):
    """Claims about fringes and courses."""
    one, two = draw.matrix(1), draw.matrix(1)
    yield certificates.certify_fringes(one, two)
    yield certificates.certify_fringes(
        (((1, 0), (0, 0)), ((0, 0), (0, 0))), (((0, 0), (0, 0)), ((0, 1), draw.row(2, 1))),
    )
    for share in ((0, 1), (1, 2), (3, 5)):
        light = sharper(one, two, share)
        if light is not None:
            yield (("sharper", one, two, share), light)
    first, last = course_of(draw.row(5, 3), draw.chance.randint(1, 4)), course_of(draw.row(5, 3), 3)
    yield certificates.certify_courses(first, last)
    yield certificates.certify_courses(course_of((9, *draw.row(3, 3), 8), 2), last)
    for line in (draw.chance.choice(LINES), draw.row(3, 3)):
        yield certificates.certify_courses(course_of_square(line, 2), level_course((0, 1)))


def of_lights(draw, readings, is_fitting):
    """Claims about unknown lights."""
    yield certificates.certify_readings(readings)
    if is_fitting:
        for look in [draw.look(2), draw.look(2)] + [reading[1] for reading in readings[:1]]:
            yield certificates.certify_look(readings, look)


def of_mixtures(draw):
    """Claims about mixtures and patchworks."""
    lights, tables = tuple([draw.light(2) for _ in range(4)]), tuple([draw.table(1) for _ in range(3)])
    yield certificates.certify_mixture(lights, draw.light(2))
    mixed = [sum(Fraction(light[at], light[4]) * part for part, light in enumerate(lights)) for at in range(4)]
    yield certificates.certify_mixture(lights, row_of(mixed))
    yield certificates.certify_patchwork(tables, draw.table(1))
    yield certificates.certify_patchwork(
        tables, table_of_numbers(mixed_rows(tables, (Fraction(1, 2), Fraction(0), Fraction(1, 2)))),
    )


def certified(seed, many):
    """Pairs of claims of all words and papers that show them."""
    draw, pairs = Draw(seed), []
    for _ in range(many):
        for some in (of_plates, of_turns, of_beams, of_mixtures):
            pairs += list(some(draw))
    for family, readings in all_readings(seed, 1):
        pairs += list(of_lights(draw, readings, family[2] != "none"))
    return pairs


def bent_number(draw, number):
    strange = (True, False, None, str(number), (number,), [number])
    return draw.chance.choice((number + 1, number - 1, -number, 2 * number, 0, 1, *strange))


def bent(draw, value):
    """A value that is changed at one place, wherever it is."""
    if type(value) is int:
        return bent_number(draw, value)
    if type(value) is not tuple:
        words = ("alike", "level", "look", "sum", "setting")
        return draw.chance.choice((value + "x", value[:-1], None, (value,), b"x", ["x"], *words))
    choice = draw.chance.randint(0, 9)
    if len(value) > 0 and choice < 6:
        at = draw.chance.randrange(len(value))
        return value[:at] + (bent(draw, value[at]),) + value[at + 1:]
    if len(value) > 1 and choice == 6:
        at = draw.chance.randrange(len(value) - 1)
        return value[:at] + (value[at + 1], value[at]) + value[at + 2:]
    if choice == 7:
        longer = value + (draw.chance.choice((0, 1, (), "x", (0, 1))),)
        return draw.chance.choice((list(value), None, (), 1, "", longer, PRICKLY))
    if all(type(part) is int for part in value) and choice == 8:
        return tuple([2 * part for part in value])
    return value[:-1] if draw.chance.randint(0, 1) else value[1:]

