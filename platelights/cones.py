"""Quadratic forms at lights: whether one is nowhere below 0 there, and a light at which it is.

A form is four rows of four whole numbers, the same when turned over. By the S-lemma (Yakubovich 1971) it is nowhere
below 0 at lights exactly if for some mu from 0 on the form less mu times I I - Q Q - U U - V V is nowhere below 0.
"""

from itertools import combinations
from math import isqrt

from platelights.forms import row_below
from platelights.lights import crossed
from platelights.polynomials import polynomial_product, polynomial_sum, sign_at, sign_at_root, stretches_of_roots
from platelights.polynomials import sturm_rows
from platelights.ratios import middle_of, ratio, ratio_sign
from platelights.wholes import combined, dot, reduced

_SIGNS = (1, -1, -1, -1)
_PLAIN = (1, 0, 0, 0)
_NOUGHT = (0, 1)


def _value(form, row, other):
    """What a form makes of two rows."""
    return dot(row, [dot(line, other) for line in form])


def _determinant(rows):
    """The determinant of a table of polynomials."""
    if len(rows) == 0:
        return (1,)
    total = ()
    for at, entry in enumerate(rows[0]):
        rest = [row[:at] + row[at + 1:] for row in rows[1:]]
        part = polynomial_product(entry, _determinant(rest))
        total = polynomial_sum(total, part if at % 2 == 0 else [-number for number in part])
    return total


def _minor_sum(pencil, many):
    """The sum of the principal minors of so many rows."""
    total = ()
    for chosen in combinations(range(4), many):
        total = polynomial_sum(total, _determinant([[pencil[at][place] for place in chosen] for at in chosen]))
    return total


def _pencil(form):
    """The form less mu times the product of lights, its numbers polynomials in mu."""
    return [
        [(number, -_SIGNS[at]) if at == place else (number,) for place, number in enumerate(row)]
        for at, row in enumerate(form)
    ]


def is_never_below(form):
    """Whether a form is not below 0 at any light."""
    if form[0][0] < 0:
        return False
    pencil = _pencil(form)
    sums = [_minor_sum(pencil, many) for many in (1, 2, 3)]
    whole = _minor_sum(pencil, 4)
    # The greatest mu that does it is a root of the determinant: with that above 0, a greater one would do, too.
    # It is not above the first number of the form, as the form less mu times the product has the rest there.
    if sign_at(whole, _NOUGHT) == 0 and all([sign_at(each, _NOUGHT) >= 0 for each in sums]):
        return True
    rows = sturm_rows(whole)
    for stretch in stretches_of_roots(rows, (_NOUGHT, (form[0][0], 1))):
        if all([sign_at_root(rows, stretch, each) >= 0 for each in sums]):
            return True
    return False


def _row_at(form, mu, parts):
    """A row to which the form less mu times the product gives less than minus its square over some parts; or None."""
    over, below = mu
    rows = [[(number * below * parts, 0) for number in row] for row in form]
    for at, sign in enumerate(_SIGNS):
        rows[at][at] = (rows[at][at][0] - sign * over * parts + below, 0)
    row = row_below(rows)
    if row is None:
        return None
    return tuple([part[0] for part in row])


def _between(low, high):
    """A fraction in the middle half from a fraction to one that is not less, told by small numbers."""
    middle, width = middle_of(low, high), ratio(high[0] * low[1] - low[0] * high[1], high[1] * low[1])
    if width[0] == 0:
        return low
    below = 1
    while below * width[0] < 4 * width[1]:
        below *= 2
    return ratio(middle[0] * below // middle[1], below)


def _stretched(lower, upper, scale):
    """A row so many times the lower one, and just so many times the upper one that it is in the cone."""
    below, shared, above = crossed(lower, lower), crossed(lower, upper), crossed(upper, upper)
    root = isqrt(scale * scale * (shared * shared - below * above)) + 1
    many = -((scale * shared - root) // above)
    return combined(scale, lower, many, upper)


def _joined_row(form, lower, upper, mu):
    """A row in the cone at which a form is below 0, of two at which it is below mu times the product.

    The product is below 0 at the lower row and above 0 at the upper one.
    """
    if mu[1] * _value(form, lower, upper) > mu[0] * crossed(lower, upper):
        upper = combined(-1, upper, 0, upper)
    # All sums of the two are now below mu times the product, so close to the cone's rim the form is below 0.
    scale = 2
    row = _stretched(lower, upper, scale)
    while _value(form, row, row) >= 0:
        scale *= scale
        row = _stretched(lower, upper, scale)
    return row


def _row_below_at_lights(form):
    """A row in the cone, or the opposite of one, at which a form is below 0, for a form that is so at some light."""
    if form[0][0] < 0:
        return _PLAIN
    # Each row that is found bars all mu below low, or all mu above high, until they bar all.
    low, high = _NOUGHT, ratio(form[0][0], 1)
    lower, upper, parts = None, _PLAIN, 2
    while ratio_sign(low, high) <= 0:
        row = _row_at(form, _between(low, high), parts)
        if row is None:
            parts *= parts
            continue
        value, size = _value(form, row, row), crossed(row, row)
        if size < 0:
            lower, low = row, ratio(value, size)
        elif value < 0:
            return row
        else:
            upper, high = row, ratio(value, size)
    return _joined_row(form, lower, upper, middle_of(low, high))


def _near(row, parts):
    """A row in the cone that is the nearer to another one the more parts its level is told in."""
    swings = [(2 * parts * number + row[0]) // (2 * row[0]) for number in row[1:]]
    size = dot(swings, swings)
    return (max(parts, isqrt(size - 1) + 1 if size > 0 else 0), *swings)


def _shortened(form, row):
    """A row in the cone near to one at which a form is below 0, with few figures, at which it is so, too."""
    parts = 1
    near = _near(row, parts)
    while parts < row[0] and _value(form, near, near) >= 0:
        parts = 4 * parts * parts
        near = _near(row, parts)
    return near if parts < row[0] else row


def light_below(form):
    """A light at which a form is below 0; None if there is none."""
    if is_never_below(form):
        return None
    row = _row_below_at_lights(form)
    side = -1 if row[0] < 0 else 1
    return (*reduced(_shortened(form, [side * number for number in row])), 1)
