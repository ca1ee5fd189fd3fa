"""Fringes of all lights: for which lights two arms make none, and how sharp they get."""

from platelights.amplitudes import check_matrix, light_matrix, table_of_matrix
from platelights.beams import check_beams
from platelights.cones import is_never_below, light_below
from platelights.equations import rank_of
from platelights.fractions import check_share
from platelights.gaussians import NOUGHT, adjoint, gaussian_product, gaussian_sum, multiplied, taken, trace_of
from platelights.lights import crossed, mirrored, pure_light
from platelights.tables import table_sum
from platelights.wholes import combined, reduced, sign_of

_PLAIN = (1, 0, 0, 0)
_UNITS = ((1, 0, 0, 0, 1), (0, 1, 0, 0, 1), (0, 0, 1, 0, 1), (0, 0, 0, 1, 1))
_KINDS = ((1, 0, 0, 1), (-1, 0, 0, 1), (0, 1, 0, 1), (0, 0, 1, 1))
_NOUGHTS = (((0, 0), (0, 0)), ((0, 0), (0, 0)))


def _mixing(one, two):
    """The first matrix turned over and conjugated, times the second one."""
    check_matrix(one)
    check_matrix(two)
    return gaussian_product(adjoint(one), two)


def never_fringes(one, two):
    """Whether no light makes fringes."""
    return _mixing(one, two) == _NOUGHTS


def plain_fringes(one, two):
    """Whether light that does not swing makes fringes."""
    return trace_of(_mixing(one, two)) != NOUGHT


def _fringe_rows(one, two):
    """The two rows by which a light's numbers make what cosine and sine add to its level, B and D."""
    mixing = _mixing(one, two)
    traces = [trace_of(gaussian_product(mixing, light_matrix(light))) for light in _UNITS]
    return tuple([trace[0] for trace in traces]), tuple([-trace[1] for trace in traces])


def _kind_along(row):
    """The kind of the pure light that four numbers are some multiple of."""
    side = -1 if row[0] < 0 else 1
    return reduced((*[side * number for number in row[1:]], side * row[0]))


def _without_one(row):
    """Which lights make no fringes, where just one row tells the fringes of all."""
    size = crossed(row, row)
    if size > 0:
        return ("none",)
    if size == 0:
        return ("kind", _kind_along(row))
    # What light that does not swing has of the row is taken off it.
    return ("light", (*reduced(combined(-size, _PLAIN, row[0], row)), 1))


def _without_two(one, two):
    """The same for two rows that are not along one line."""
    own, both, other = crossed(one, one), crossed(one, two), crossed(two, two)
    size = own * other - both * both
    if size < 0:
        return ("none",)
    if size == 0:
        # Some light along both rows is upright on both, and so on all lights without fringes.
        return ("kind", _kind_along(one if own == 0 and both == 0 else combined(-both, one, own, two)))
    off = combined(one[0] * other - two[0] * both, one, two[0] * own - one[0] * both, two)
    return ("light", (*reduced(combined(size, _PLAIN, -1, off)), 1))


def fringeless(one, two):
    """Which lights make no fringes: all, none, those of one kind alone, or more, with one of these."""
    rows = [mirrored(row) for row in _fringe_rows(one, two)]
    many = rank_of(rows)
    if many == 0:
        return ("all",)
    if many == 2:
        return _without_two(rows[0], rows[1])
    return _without_one(rows[0] if any(rows[0]) else rows[1])


def fringes_behind(one, two, light):
    """A kind behind whose polariser two arms make fringes; None if there is none."""
    check_beams(one, two, light)
    mixing = gaussian_product(gaussian_product(two, light_matrix(light)), adjoint(one))
    for kind in _KINDS:
        # The light of the kind has twice the matrix that the polariser leads amplitudes by.
        if trace_of(gaussian_product(light_matrix(pure_light(kind)), mixing)) != NOUGHT:
            return kind
    return None


def _blunt_form(one, two, share):
    """The form that is below 0 at the lights with a contrast above a share."""
    across, along = _fringe_rows(one, two)
    check_share(share)
    rows, below = table_sum(table_of_matrix(one), table_of_matrix(two))
    mean, more = share[0] * share[0], share[1] * share[1] * below * below
    return [
        [mean * rows[0][at] * rows[0][place] - more * (across[at] * across[place] + along[at] * along[place])
         for place in range(4)]
        for at in range(4)
    ]


def at_most(one, two, share):
    """Whether the contrast of all lights is at most a share."""
    return is_never_below(_blunt_form(one, two, share))


def sharper(one, two, share):
    """A light with a contrast above a share; None if there is none."""
    return light_below(_blunt_form(one, two, share))


def _determinant(matrix):
    """The determinant of a matrix."""
    (x, y), (z, w) = matrix
    return gaussian_sum((multiplied(x, w), taken(multiplied(y, z), -1)))


def _added(matrix, other):
    """The sum of two matrices."""
    return tuple([tuple([gaussian_sum(pair) for pair in zip(row, beside)]) for row, beside in zip(matrix, other)])


def _roots_of(form):
    """At how many angles a form of three numbers, not all 0, is 0."""
    return sign_of(form[1] * form[1] - 4 * form[0] * form[2]) + 1


def _share_a_root(form, other):
    """Whether two forms of three numbers, which are not along one line, are both 0 at some angle."""
    first, last = form[0] * other[1] - form[1] * other[0], form[1] * other[2] - form[2] * other[1]
    ends = form[0] * other[2] - form[2] * other[0]
    return ends * ends == first * last


def blunt_phases(one, two):
    """At how many phases the determinant of the whole matrix is 0; None if at all."""
    check_matrix(one)
    check_matrix(two)
    first, last = _determinant(one), _determinant(two)
    ends = gaussian_sum((first, last))
    middle = gaussian_sum((_determinant(_added(one, two)), taken(ends, -1)))
    apart = gaussian_sum((last, taken(first, -1)))
    # With z = (b + i a) over (b - i a) it is a form in a and b: these are its numbers for b b, a b and a a.
    beside = taken(multiplied((0, 1), apart), 2)
    numbers = (gaussian_sum((middle, ends)), beside, gaussian_sum((middle, taken(ends, -1))))
    forms = [[number[part] for number in numbers] for part in (0, 1)]
    many = rank_of(forms)
    if many == 0:
        return None
    if many == 2:
        return 1 if _share_a_root(forms[0], forms[1]) else 0
    return _roots_of(forms[0] if any(forms[0]) else forms[1])
