"""Courses at all angles: their least and greatest levels, where they rise and fall, and comparing them.

A course less a level, and the swing of a course, is a form of five whole numbers in the two numbers of a setting.
"""

from math import isqrt

from platelights.courses import check_course, course_less
from platelights.fractions import check_fraction
from platelights.polynomials import root_bound, sign_at, stretches_apart, trimmed
from platelights.ratios import ratio
from platelights.wholes import combined, sign_of

_ROUND = (1, 0, 2, 0, 1)
_SIDES = {-1: "below", 0: "at", 1: "above"}
_SWINGS = {-1: "falls", 0: "still", 1: "rises"}


def _marks_to_right(form):
    """Pairs of a sign of a form and a setting, from the angle 0, not counted, to the right angle, not counted.

    Where the form is 0 the setting is None; each sign between has a setting, which may be (0, 1) for the first one.
    """
    polynomial = trimmed(form)
    bound = (root_bound(polynomial), 1)
    marks = []
    for low, _ in stretches_apart(polynomial, ((0, 1), bound)):
        marks.append((sign_at(polynomial, low), low))
        marks.append((0, None))
    marks.append((sign_at(polynomial, bound), bound))
    return marks


def _marks_to_left(form):
    """The same from the right angle to half a turn."""
    mirrored = [number if at % 2 == 0 else -number for at, number in enumerate(form)]
    marks = []
    for sign, setting in reversed(_marks_to_right(mirrored)):
        marks.append((sign, None if setting is None else (-setting[0], setting[1])))
    return marks


def _marks(form):
    """Pairs of a sign of a form and a setting, or None where it is 0, in the order of the angles from 0 on."""
    if not any(form):
        return [(0, None)]
    start = [(sign_of(form[0]), (0, 1))]
    return start + _marks_to_right(form) + [(sign_of(form[4]), (1, 0))] + _marks_to_left(form)


def _signs(form):
    """The signs of a form at all angles from 0 on, neighbours that are alike told once."""
    signs = []
    for sign, _ in _marks(form):
        if len(signs) == 0 or signs[-1] != sign:
            signs.append(sign)
    return signs


def _level_form(course, level):
    """The form with the sign of a course less a level."""
    check_course(course)
    check_fraction(level)
    return combined(level[1], course[:5], -level[0] * course[5], _ROUND)


def _swing_form(course):
    """The form that is above 0 where a course rises and below 0 where it falls."""
    check_course(course)
    f0, f1, f2, f3, f4, _ = course
    return (f1, 2 * f2 - 4 * f0, 3 * f3 - 3 * f1, 4 * f4 - 2 * f2, -f3)


def compare_least(course, level):
    """-1, 0 or 1, as the least level of a course is less than, equal to, greater than a fraction."""
    return min(_signs(_level_form(course, level)))


def compare_greatest(course, level):
    """-1, 0 or 1, as the greatest level of a course is less than, equal to, greater than a fraction."""
    return max(_signs(_level_form(course, level)))


def angles_with(course, level):
    """At how many angles a course has a level; None if at all."""
    form = _level_form(course, level)
    return _signs(form).count(0) if any(form) else None


def _setting_with(form, wanted):
    """A setting at which a form has a sign other than 0; None if there is none."""
    for sign, setting in _marks(form):
        if sign == wanted:
            return setting
    return None


def setting_below(course, level):
    """A setting at which a course is below a level; None if there is none."""
    return _setting_with(_level_form(course, level), -1)


def setting_above(course, level):
    """A setting at which a course is above a level; None if there is none."""
    return _setting_with(_level_form(course, level), 1)


def level_tale(course, level):
    """Where a course is below, at and above a level, from the angle 0 on."""
    return tuple([_SIDES[sign] for sign in _signs(_level_form(course, level))])


def swing_tale(course):
    """Where a course rises, falls and is still, from the angle 0 on."""
    return tuple([_SWINGS[sign] for sign in _signs(_swing_form(course))])


def tops(course):
    """How many still angles a course has with rising before and falling behind them."""
    signs = _signs(_swing_form(course))
    # Before the first one comes the last one: half a turn of the handle leads back to the angle 0.
    around = [signs[-1], *signs, signs[0]]
    return len([at for at in range(len(signs)) if around[at:at + 3] == [1, 0, -1]])


def compare_courses(course, other):
    """How a course lies to another one: same, above, below, not below, not above or crossing."""
    signs = _signs(course_less(course, other)[:5])
    least, greatest = min(signs), max(signs)
    if least == greatest:
        return "same" if least == 0 else _SIDES[least]
    if least == 0:
        return "not below"
    return "not above" if greatest == 0 else "crossing"


def minors_of(numbers, t):
    """The signs of the three leading minors of the square table of five numbers and a fraction t."""
    f0, f1, f2 = numbers[:3]
    second = (4 * f0 * f2 - f1 * f1, -8 * f0)
    return (sign_of(f0), sign_at(second, t), sign_at(_determinant(numbers), t))


def _determinant(numbers):
    """Four times the determinant of the square table of five numbers, a polynomial in t."""
    f0, f1, f2, f3, f4 = numbers
    return (4 * f0 * f2 * f4 - f0 * f3 * f3 - f1 * f1 * f4, 2 * f1 * f3 - 8 * f0 * f4, -4 * f2, 8)


def _lower_still_point(numbers, scale):
    """A fraction near the lower still point of the determinant, the nearer the greater the scale is."""
    f0, f1, f2, f3, f4 = numbers
    square = f2 * f2 - 3 * f1 * f3 + 12 * f0 * f4
    return ratio(scale * f2 - isqrt(scale * scale * square), 6 * scale)


def square_number(course):
    """A fraction t that shows a course to be above 0 at all angles; None if it is not."""
    if compare_least(course, (0, 1)) <= 0:
        return None
    # The fractions that do it lie between the two least roots of the determinant, and so does its lower still point.
    numbers, scale = course[:5], 2
    t = _lower_still_point(numbers, scale)
    while min(minors_of(numbers, t)) <= 0:
        scale *= scale
        t = _lower_still_point(numbers, scale)
    return t
