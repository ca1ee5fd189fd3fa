"""Certificates: of two claims the one that is so, and a paper for the checker."""

from platelights.angles import setting_below, square_number
from platelights.beams import has_fringes
from platelights.courses import course_less
from platelights.fringes import never_fringes
from platelights.keepers import barring_row, lost_light, parts_of
from platelights.leads import bar_to_turn, fitting_turn
from platelights.lights import mirrored
from platelights.mixing import mixture, parting_row
from platelights.patchworks import parting_table, patchwork
from platelights.plates import TELLING_LIGHTS, parting_light
from platelights.polynomials import common_divisor, derivative
from platelights.ranges import settled_level
from platelights.ratios import ratio
from platelights.readings import any_light, bar, space_of_readings, weights_of_row
from platelights.rounds import all_fade, comes_back, echo, last_level, losing_row, mean_light, unchanged_light
from platelights.spaces import barring_light, other_light_within
from platelights.turns import turn_order

_PLAIN = (1, 0, 0, 0, 1)
_NOUGHT = (0, 1)


def certify_stacks(stack, other):
    """That two stacks do the same to all lights, or not, with a light on which they part."""
    light = parting_light(stack, other)
    return (("alike", stack, other), ()) if light is None else (("unlike", stack, other), light)


def certify_keeper(table):
    """That a table keeps lights, or not, with a light that it leads to no light."""
    light = lost_light(table)
    return (("keeps", table), ()) if light is None else (("loses", table), light)


def certify_made(table):
    """That a table is made, with its parts, or not, with a row that has a weight below 0."""
    parts = parts_of(table)
    return (("not made", table), barring_row(table)) if parts is None else (("made", table), parts)


def certify_fringes(one, two):
    """That some light makes fringes, with such a light, or that none does."""
    if never_fringes(one, two):
        return (("no fringes", one, two), ())
    return (("fringes", one, two), [light for light in TELLING_LIGHTS if has_fringes(one, two, light)][0])


def certify_readings(readings):
    """That a light fits some readings, or that none does, with what bars all lights."""
    light = any_light(readings)
    return (("no light", readings), bar(readings)) if light is None else (("fits", readings, light), ())


def _fractions(weights):
    """Whole numbers over another one as a tuple of fractions."""
    return tuple([ratio(weight, weights[1]) for weight in weights[0]])


def _proof_of(readings, look, light):
    """The weights that show that a look reads one level of all that fit readings, as it does of a light that fits."""
    weights = weights_of_row(readings, look)
    if weights is not None:
        return ("sum", _fractions(weights))
    # Just this light fits: it is pure, and the look that reads 0 of it shows that, or dark, as another look shows.
    edge = light[:4] if light[0] > 0 else barring_light(space_of_readings(readings))
    return ("edge", _fractions(weights_of_row(readings, mirrored(edge))))


def certify_look(readings, look):
    """That a look reads one level of all lights that fit some readings, or that it reads unlike levels of two."""
    level = settled_level(readings, look)
    light = any_light(readings)
    if level is None:
        return (("open", readings, look), (light, other_light_within(space_of_readings(readings), look)))
    return (("settled", readings, look, level), (light, _proof_of(readings, look, light)))


def certify_mixture(lights, light):
    """That a light is a mixture of lights, with weights, or not, with a row that parts it from them."""
    weights = mixture(lights, light)
    if weights is None:
        return (("no mixture", lights, light), parting_row(lights, light))
    return (("mixture", lights, light), weights)


def certify_patchwork(tables, table):
    """That a table is a patchwork of tables, with weights, or not, with what parts it from them."""
    weights = patchwork(tables, table)
    if weights is None:
        return (("no patchwork", tables, table), parting_table(tables, table))
    return (("patchwork", tables, table), weights)


def certify_pairs(pairs):
    """That a turn fits some pairs, or that none does, with what bars all turns."""
    turn = fitting_turn(pairs)
    return (("no turn", pairs), bar_to_turn(pairs)) if turn is None else (("leads", pairs, turn), ())


def certify_turn(turn):
    """The order of a turn, or that it has none."""
    order = turn_order(turn)
    return (("never round", turn), ()) if order is None else (("order", turn, order), ())


def _touch_of(course):
    """What shows that a course is not above 0 at all angles, which it is not."""
    setting = setting_below(course, _NOUGHT)
    if setting is not None:
        return ("setting", setting)
    if course[4] == 0:
        return ("setting", (1, 0))
    # It is nowhere below 0, so where it is 0 its polynomial has a double root: one, four in one, or two of two.
    root = common_divisor(course[:5], derivative(course[:5]))
    if len(root) == 2:
        return ("setting", ratio(-root[0], root[1]))
    if len(root) == 4:
        return ("setting", ratio(-root[2], 3 * root[3]))
    return ("square", root, ratio(course[4], root[2] * root[2]))


def certify_courses(course, other):
    """That a course is above another one at all angles, with a fraction, or not, with a setting or a square."""
    less = course_less(course, other)
    t = square_number(less)
    if t is None:
        return (("not brighter", course, other), _touch_of(less))
    return (("brighter", course, other), t)


def certify_rounds(stack):
    """That all lights fade, with a light that shows it, or that a light is unchanged."""
    if all_fade(stack):
        return (("fading", stack), echo(stack, _PLAIN))
    return (("unchanged", stack, unchanged_light(stack)), ())


def certify_level(stack, light):
    """The last level of a light, with its mean light and numbers that lose in a round what it has beside that."""
    level = last_level(stack, light)
    return (("last level", stack, light, level), (mean_light(stack, light), losing_row(stack, light)))


def certify_return(stack, light):
    """After how many rounds a light comes back, or that it never does."""
    many = comes_back(stack, light)
    return (("never back", stack, light), ()) if many is None else (("comes back", stack, light, many), ())
