"""Courses: the levels behind a plate on a handle, at all its settings."""

from math import lcm

from platelights.errors import InvalidCourse, InvalidNumbers, InvalidParts, InvalidSamples
from platelights.fractions import check_below, check_fraction, is_fraction
from platelights.polynomials import polynomial_product, value_at
from platelights.ratios import ratio
from platelights.settings import check_setting, is_setting
from platelights.wholes import combined, dot, first_wrong, is_reduced_row, is_row, reduced

_ROUND = (1, 0, 2, 0, 1)
# Eight times each part is a sum of the five numbers, and each number is a sum of the parts.
_ROWS_OF_PARTS = ((3, 0, 1, 0, 3), (4, 0, 0, 0, -4), (0, 2, 0, 2, 0), (1, 0, -1, 0, 1), (0, 1, 0, -1, 0))
_COURSES_OF_PARTS = ((1, 0, 2, 0, 1), (1, 0, 0, 0, -1), (0, 2, 0, 2, 0), (1, 0, -6, 0, 1), (0, 4, 0, -4, 0))


def is_course(value):
    """Whether a value is a course."""
    return is_reduced_row(value, 6) and value[5] > 0


def check_course(value):
    """Raise an error for what is no course."""
    if not is_course(value):
        raise InvalidCourse(value)


def course_of(numbers, below):
    """The course of five whole numbers over one above 0."""
    if not is_row(numbers, 5):
        raise InvalidNumbers(numbers)
    check_below(below)
    return reduced((*numbers, below))


def _length_of(setting):
    """The square of the length of a setting's two numbers."""
    return setting[0] * setting[0] + setting[1] * setting[1]


def level_at(course, setting):
    """The level of a course at a setting."""
    check_course(course)
    check_setting(setting)
    length = _length_of(setting)
    return ratio(value_at(course[:5], setting), course[5] * length * length)


def level_course(level):
    """The course that has a level at all settings."""
    check_fraction(level)
    return reduced((*[level[0] * number for number in _ROUND], level[1]))


def course_less(course, other):
    """The course of the levels of a course less those of another one."""
    check_course(course)
    check_course(other)
    numbers = combined(other[5], course[:5], -course[5], other[:5])
    return reduced((*numbers, course[5] * other[5]))


def _power(polynomial, many):
    """A polynomial times itself, so often in all."""
    whole = (1,)
    for _ in range(many):
        whole = polynomial_product(whole, polynomial)
    return whole


def _weighed_course(rows, weights):
    """The course of the sum of rows of at most five whole numbers times fractions."""
    below = 1
    for weight in weights:
        below = lcm(below, weight[1])
    total = (0, 0, 0, 0, 0)
    for row, weight in zip(rows, weights):
        whole = [*row, *[0] * (5 - len(row))]
        total = combined(1, total, weight[0] * (below // weight[1]), whole)
    return reduced((*total, below))


def turned_course(course, setting):
    """The course that has at each setting the level of a course at the sum of this and another setting."""
    check_course(course)
    check_setting(setting)
    a, b = setting
    length = _length_of(setting)
    below = course[5] * length * length
    # The sum with the other setting has the two numbers a + b h and b - a h, h being the setting of the new course.
    rows = [polynomial_product(_power((a, b), at), _power((b, -a), 4 - at)) for at in range(5)]
    return _weighed_course(rows, [ratio(number, below) for number in course[:5]])


def course_parts(course):
    """The five parts of a course, m, p, q, u and v."""
    check_course(course)
    return tuple([ratio(dot(row, course[:5]), 8 * course[5]) for row in _ROWS_OF_PARTS])


def course_of_parts(parts):
    """The course that has five parts."""
    if type(parts) is not tuple or len(parts) != 5:
        raise InvalidParts(None)
    index = first_wrong(parts, is_fraction, 5)
    if index is not None:
        raise InvalidParts(index)
    return _weighed_course(_COURSES_OF_PARTS, parts)


def _is_sample(value):
    """Whether a value is a pair of a setting and a fraction."""
    return type(value) is tuple and len(value) == 2 and is_setting(value[0]) and is_fraction(value[1])


def _check_samples(samples):
    """Raise an error for what is no tuple of five samples with different settings."""
    if type(samples) is not tuple or len(samples) != 5:
        raise InvalidSamples(None)
    settings = []
    for index, sample in enumerate(samples):
        if not _is_sample(sample) or sample[0] in settings:
            raise InvalidSamples(index)
        settings.append(sample[0])


def course_through(samples):
    """The course that has five levels, each at a setting of its own."""
    _check_samples(samples)
    rows, weights = [], []
    for setting, level in samples:
        row = (1,)
        for other, _ in samples:
            if other != setting:
                row = polynomial_product(row, (-other[0], other[1]))
        whole = [*row, *[0] * (5 - len(row))]
        length = _length_of(setting)
        # The row is 0 at all other settings, so its own level tells how often it is to be taken.
        rows.append(whole)
        weights.append(ratio(level[0] * length * length, level[1] * value_at(whole, setting)))
    return _weighed_course(rows, weights)


def setting_sum(setting, other):
    """The setting of the sum of the angles of two settings."""
    check_setting(setting)
    check_setting(other)
    a, b = reduced((setting[0] * other[1] + other[0] * setting[1], setting[1] * other[1] - setting[0] * other[0]))
    if b < 0 or (b == 0 and a < 0):
        return (-a, -b)
    return (a, b)


def setting_back(setting):
    """The setting that takes a setting back."""
    check_setting(setting)
    return setting if setting[1] == 0 else (-setting[0], setting[1])
