"""Light that goes through the same stack again and again: mean lights, last levels, and what fades."""

from platelights.equations import rank_of, solution_of
from platelights.errors import Dark, NotFading
from platelights.fractions import check_whole_to
from platelights.lights import check_light
from platelights.plates import check_stack, table_of_stack
from platelights.ratios import ratio
from platelights.tables import led_light
from platelights.wholes import combined, dot, reduced, rows_product

_DARK = (0, 0, 0, 0, 1)
_PLAIN = (1, 0, 0, 0, 1)
_MOST_ROUNDS = 24
# A light that comes back does so after at most so many rounds.
_LONGEST_WAY = 6


def after_rounds(stack, light, many):
    """A light after so many rounds through a stack."""
    check_stack(stack)
    check_light(light)
    check_whole_to(many, _MOST_ROUNDS)
    table = table_of_stack(stack)
    for _ in range(many):
        light = led_light(table, light)
    return light


def dark_after(stack, light):
    """The least number of rounds after which a light is dark, at most 2; None if it never is."""
    for many in range(3):
        if after_rounds(stack, light, many) == _DARK:
            return many
    return None


def _loss(stack):
    """The rows that tell what numbers lose in a round, all over one number, and this number."""
    rows, below = table_of_stack(stack)
    return [[(below if at == place else 0) - row[place] for place in range(4)] for at, row in enumerate(rows)], below


def _losing(rows, light):
    """Numbers over one such that the light less what they lose by rows loses nothing more; all leave the same."""
    return solution_of(rows_product(rows, rows), [dot(row, light[:4]) for row in rows])


def mean_light(stack, light):
    """The light to which the mean of a light's rounds comes as near as one likes."""
    check_stack(stack)
    check_light(light)
    rows, _ = _loss(stack)
    numbers, below = _losing(rows, light)
    lost = [dot(row, numbers) for row in rows]
    return reduced((*combined(below, light[:4], -1, lost), below * light[4]))


def losing_row(stack, light):
    """Five numbers that lose in a round what a light has beside its mean light."""
    rows, size = _loss(stack)
    numbers, below = _losing(rows, light)
    return reduced((*[size * number for number in numbers], below * light[4]))


def last_level(stack, light):
    """The level to which the level of a light comes down, round by round."""
    mean = mean_light(stack, light)
    return ratio(mean[0], mean[4])


def fades(stack, light):
    """Whether a light's level comes down to 0, round by round."""
    return mean_light(stack, light) == _DARK


def unchanged_span(stack):
    """The dimension of all rows of four numbers that a stack's table leaves as they are."""
    check_stack(stack)
    rows, _ = _loss(stack)
    return 4 - rank_of(rows)


def all_fade(stack):
    """Whether all lights fade."""
    return unchanged_span(stack) == 0


def unchanged_light(stack):
    """A light other than dark that a stack leaves as it is; None if there is none."""
    mean = mean_light(stack, _PLAIN)
    return None if mean == _DARK else mean


def comes_back(stack, light):
    """The number of rounds after which a light is for the first time as it was; None if it never is."""
    check_stack(stack)
    check_light(light)
    if light == _DARK:
        raise Dark()
    table, led = table_of_stack(stack), light
    for many in range(1, _LONGEST_WAY + 1):
        led = led_light(table, led)
        if led == light:
            return many
    return None


def echo(stack, light):
    """The sum of a light that fades and what it is after each round."""
    if not fades(stack, light):
        raise NotFading()
    rows, size = _loss(stack)
    # What fades is what some numbers lose in a round; the echo is what loses the light, and what fades itself.
    numbers, below = solution_of(rows_product(rows, rows), [size * number for number in light[:4]])
    return reduced((*[dot(row, numbers) for row in rows], below * light[4]))
