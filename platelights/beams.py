"""Beams that meet: light parted into two arms and laid together again, at all phases of the second arm."""

from platelights.amplitudes import check_matrix, light_matrix, table_of_matrix
from platelights.fractions import check_fraction, surd_of
from platelights.gaussians import adjoint, gaussian_product, gaussian_sum, multiplied, taken, trace_of
from platelights.lights import added, check_light
from platelights.ratios import ratio, ratio_product, ratio_sign, ratio_sum
from platelights.settings import check_setting
from platelights.tables import led_light, reduced_table
from platelights.wholes import reduced

_NOUGHT = (0, 1)


def check_beams(one, two, light):
    """Raise an error for what are no two matrices and a light."""
    check_matrix(one)
    check_matrix(two)
    check_light(light)


def _mixed_row(size, row, phase, other):
    """A row of Gaussians times a whole number plus another row times a Gaussian."""
    return tuple([gaussian_sum((taken(left, size), multiplied(phase, right))) for left, right in zip(row, other)])


def beam_light(one, two, light, phase):
    """The light behind two arms at a phase."""
    check_beams(one, two, light)
    check_setting(phase)
    a, b = phase
    size, turned = a * a + b * b, (b * b - a * a, 2 * a * b)
    mixed = tuple([_mixed_row(size, row, turned, other) for row, other in zip(one, two)])
    rows, below = table_of_matrix(mixed)
    return led_light(reduced_table(rows, below * size * size), light)


def beam_level(one, two, light, phase):
    """The level behind two arms at a phase."""
    told = beam_light(one, two, light, phase)
    return ratio(told[0], told[4])


def _apart(one, two, light):
    """The sum of the lights behind each arm alone."""
    return added(led_light(table_of_matrix(one), light), led_light(table_of_matrix(two), light))


def fringe(one, two, light):
    """The mean level behind two arms, and what the cosine and the sine of the phase add to it."""
    check_beams(one, two, light)
    whole = _apart(one, two, light)
    # The matrix of the light is over twice its n, and the fringe has twice the trace.
    trace = trace_of(gaussian_product(gaussian_product(adjoint(one), two), light_matrix(light)))
    return (ratio(whole[0], whole[4]), ratio(trace[0], light[4]), ratio(-trace[1], light[4]))


def _swing_square(told):
    """The square of how far the levels of a fringe go from their mean."""
    _, across, along = told
    return ratio_sum(ratio_product(across, across), ratio_product(along, along))


def has_fringes(one, two, light):
    """Whether the level behind two arms is not the same at all phases."""
    return _swing_square(fringe(one, two, light)) != _NOUGHT


def contrast_square(one, two, light):
    """The square of the contrast of a fringe; None if it is dark at all phases."""
    told = fringe(one, two, light)
    square, mean = _swing_square(told), told[0]
    if mean == _NOUGHT:
        return None
    return ratio(square[0] * mean[1] * mean[1], square[1] * mean[0] * mean[0])


def brightest(one, two, light):
    """The numbers along which the cosine and the sine of the brightest phase are; None if there are no fringes."""
    _, across, along = fringe(one, two, light)
    if across == _NOUGHT and along == _NOUGHT:
        return None
    return reduced((across[0] * along[1], along[0] * across[1]))


def level_ends(one, two, light):
    """The least and the greatest level behind two arms, over all phases."""
    told = fringe(one, two, light)
    square = _swing_square(told)
    return (surd_of(told[0], -1, square), surd_of(told[0], 1, square))


def times_at(one, two, light, level):
    """At how many phases the level behind two arms is a told one; None if at all."""
    told = fringe(one, two, light)
    check_fraction(level)
    square = _swing_square(told)
    away = ratio_sum(level, (-told[0][0], told[0][1]))
    side = ratio_sign(square, ratio_product(away, away))
    if square == _NOUGHT:
        return None if side == 0 else 0
    return side + 1


def _less(light, other):
    """The numbers of a light less those of another one, each a fraction."""
    return tuple([
        ratio(number * other[4] - beside * light[4], light[4] * other[4])
        for number, beside in zip(light[:4], other[:4])
    ])


def ring(one, two, light):
    """The rows of the light at all phases: the mean, and what goes with the cosine and with the sine of the phase."""
    check_beams(one, two, light)
    mean = _apart(one, two, light)
    # At these phases the cosine is 1 and the sine 0, and the other way round.
    across, along = beam_light(one, two, light, (0, 1)), beam_light(one, two, light, (1, 1))
    return (tuple([ratio(number, mean[4]) for number in mean[:4]]), _less(across, mean), _less(along, mean))
