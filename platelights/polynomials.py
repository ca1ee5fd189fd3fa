"""Polynomials of whole numbers, the lowest power first, and their roots by rows of Sturm (1829)."""

from platelights.ratios import middle_of
from platelights.wholes import reduced, sign_of


def trimmed(polynomial):
    """A polynomial without noughts at its end."""
    size = len(polynomial)
    while size > 0 and polynomial[size - 1] == 0:
        size -= 1
    return tuple(polynomial[:size])


def polynomial_sum(one, two):
    """The sum of two polynomials."""
    size = max(len(one), len(two))
    left, right = [*one, *[0] * (size - len(one))], [*two, *[0] * (size - len(two))]
    return trimmed([first + second for first, second in zip(left, right)])


def polynomial_product(one, two):
    """The product of two polynomials."""
    whole = [0] * (len(one) + len(two))
    for at, first in enumerate(one):
        for place, second in enumerate(two):
            whole[at + place] += first * second
    return trimmed(whole)


def value_at(polynomial, point):
    """The worth of a polynomial at a fraction p / q, times q to the power of its degree: that of a form at (p, q)."""
    total, power = 0, 1
    for number in reversed(polynomial):
        total = total * point[0] + number * power
        power *= point[1]
    return total


def sign_at(polynomial, point):
    """The sign of a polynomial at a fraction."""
    return sign_of(value_at(polynomial, point))


def derivative(polynomial):
    """The derivative of a polynomial."""
    return trimmed([at * number for at, number in enumerate(polynomial) if at > 0])


def _without_lead(polynomial, divisor):
    """A polynomial times a number above 0, less such a multiple of a shorter one that its highest power goes."""
    shift = len(polynomial) - len(divisor)
    lead = polynomial[-1] * sign_of(divisor[-1])
    rest = [number * abs(divisor[-1]) for number in polynomial]
    for at, number in enumerate(divisor):
        rest[at + shift] -= lead * number
    return trimmed(rest)


def _remainder(polynomial, divisor):
    """What is left of a polynomial divided by another one, times a number above 0."""
    rest = polynomial
    while len(rest) >= len(divisor):
        rest = reduced(_without_lead(rest, divisor))
    return rest


def common_divisor(one, two):
    """The greatest common divisor of two polynomials, but for a number."""
    while len(two) > 0:
        one, two = two, _remainder(one, two)
    return reduced(one)


def _quotient(polynomial, divisor):
    """A polynomial divided by one that divides it, but for a number."""
    whole = [0] * (len(polynomial) - len(divisor) + 1)
    rest = polynomial
    while len(rest) >= len(divisor):
        whole = [number * abs(divisor[-1]) for number in whole]
        whole[len(rest) - len(divisor)] += rest[-1] * sign_of(divisor[-1])
        rest = _without_lead(rest, divisor)
    return reduced(trimmed(whole))


def sturm_rows(polynomial):
    """The rows of Sturm of a polynomial that is not 0, of which each root is taken once."""
    single = _quotient(polynomial, common_divisor(polynomial, derivative(polynomial)))
    rows = [single, derivative(single)]
    while len(rows[-1]) > 0:
        rows.append(tuple([-number for number in _remainder(rows[-2], rows[-1])]))
    return rows[:-1]


def _changes(rows, point):
    """How often the signs of the rows of Sturm change at a fraction."""
    signs = [sign_at(row, point) for row in rows]
    kept = [sign for sign in signs if sign != 0]
    return len([1 for sign, following in zip(kept, kept[1:]) if sign != following])


def roots_within(rows, stretch):
    """How many roots there are above the low end of a stretch and not above its high end."""
    low, high = stretch
    return _changes(rows, low) - _changes(rows, high)


def _half_with_root(rows, stretch):
    """The half of a stretch with one root in which this root lies."""
    low, high = stretch
    middle = middle_of(low, high)
    lower = (low, middle)
    return lower if roots_within(rows, lower) == 1 else (middle, high)


def stretches_of_roots(rows, whole):
    """Stretches with one root each, for all roots in a stretch, ascending."""
    waiting, found = [whole], []
    while len(waiting) > 0:
        stretch = waiting.pop()
        many = roots_within(rows, stretch)
        if many == 1:
            found.append(stretch)
        elif many > 1:
            middle = middle_of(stretch[0], stretch[1])
            waiting.append((middle, stretch[1]))
            waiting.append((stretch[0], middle))
    return found


def root_bound(polynomial):
    """A whole number above the sizes of all roots of a polynomial that is not 0."""
    return max([abs(number) for number in polynomial]) // abs(polynomial[-1]) + 2


def stretches_apart(polynomial, whole):
    """Stretches with one root each, ascending, for all roots in a stretch; the polynomial is not 0 at their low ends.

    So the low end of each but the first stretch lies between two roots.
    """
    rows = sturm_rows(polynomial)
    found = []
    for stretch in stretches_of_roots(rows, whole):
        while sign_at(polynomial, stretch[0]) == 0:
            stretch = _half_with_root(rows, stretch)
        found.append(stretch)
    return found


def sign_at_root(rows, stretch, polynomial):
    """The sign of a polynomial at the one root in a stretch."""
    if len(polynomial) == 0:
        return 0
    if roots_within(sturm_rows(common_divisor(rows[0], polynomial)), stretch) > 0:
        return 0
    own = sturm_rows(polynomial)
    # As it is not 0 at the root, all its own roots are outside once the stretch is small enough.
    while roots_within(own, stretch) > 0:
        stretch = _half_with_root(rows, stretch)
    return sign_at(polynomial, stretch[1])
