"""Amplitudes and matrices of Gaussians, their lights and tables."""

from platelights.errors import InvalidAmplitude, InvalidMatrix
from platelights.gaussians import NOUGHT, adjoint, conjugated, gaussian_dot, gaussian_product, is_gaussian_row
from platelights.gaussians import multiplied, trace_of
from platelights.keepers import parts_of
from platelights.lights import kind_of
from platelights.ratios import ratio
from platelights.tables import reduced_table
from platelights.wholes import divisor_of, dot

_SPINS = (
    (((1, 0), (0, 0)), ((0, 0), (1, 0))),
    (((1, 0), (0, 0)), ((0, 0), (-1, 0))),
    (((0, 0), (1, 0)), ((1, 0), (0, 0))),
    (((0, 0), (0, -1)), ((0, 1), (0, 0))),
)
_UPRIGHT = ((0, 0), (1, 0))


def is_amplitude(value):
    """Whether a value is an amplitude."""
    return is_gaussian_row(value, 2) and value != (NOUGHT, NOUGHT)


def is_matrix(value):
    """Whether a value is a matrix."""
    return type(value) is tuple and len(value) == 2 and all([is_gaussian_row(row, 2) for row in value])


def check_amplitude(value):
    """Raise an error for what is no amplitude."""
    if not is_amplitude(value):
        raise InvalidAmplitude(value)


def check_matrix(value):
    """Raise an error for what is no matrix."""
    if not is_matrix(value):
        raise InvalidMatrix(value)


def light_of_amplitude(amplitude):
    """The light of an amplitude."""
    check_amplitude(amplitude)
    x, y = amplitude
    own, other = dot(x, x), dot(y, y)
    mixed = multiplied(conjugated(x), y)
    return (own + other, own - other, 2 * mixed[0], 2 * mixed[1], 1)


def amplitude_of(light):
    """An amplitude and the fraction that its light is to be taken times to make a light; None if that is not pure."""
    if kind_of(light) is None:
        return None
    first, below = light[0] + light[1], light[4]
    if first == 0:
        return (_UPRIGHT, ratio(light[0], below))
    divisor = divisor_of((first, light[2], light[3]))
    amplitude = ((first // divisor, 0), (light[2] // divisor, light[3] // divisor))
    return (amplitude, ratio(divisor * divisor, 2 * below * first))


def led_amplitude(matrix, amplitude):
    """The amplitude to which a matrix leads an amplitude; None if nothing is left of it."""
    check_matrix(matrix)
    check_amplitude(amplitude)
    led = tuple([gaussian_dot(row, amplitude) for row in matrix])
    return None if led == (NOUGHT, NOUGHT) else led


def matrix_product(matrix, other):
    """The matrix that leads to what the first one makes of what the other one leads to."""
    check_matrix(matrix)
    check_matrix(other)
    return gaussian_product(matrix, other)


def light_matrix(light):
    """The matrix of a light, of which the numbers are over twice those of the light."""
    i, q, u, v, _ = light
    return (((i + q, 0), (u, -v)), ((u, v), (i - q, 0)))


def table_of_matrix(matrix):
    """The table of a matrix."""
    check_matrix(matrix)
    back = adjoint(matrix)
    led = [gaussian_product(gaussian_product(matrix, spin), back) for spin in _SPINS]
    return reduced_table([[trace_of(gaussian_product(spin, image))[0] for image in led] for spin in _SPINS], 2)


def matrix_of(table):
    """A matrix and the fraction that its table is to be taken times to make a table; None if that is not pure."""
    parts = parts_of(table)
    return parts[0] if parts is not None and len(parts) == 1 else None


def is_pure_table(table):
    """Whether a table is a fraction above 0 times the table of a matrix that is not 0."""
    return matrix_of(table) is not None
