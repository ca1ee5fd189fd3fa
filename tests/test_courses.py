"""Points [25], [26] and platelights/courses.py: courses, their levels and parts, and settings added."""

import unittest
from fractions import Fraction
from math import atan2, pi

from platelights.courses import course_less, course_of, course_of_parts, course_parts, course_through, is_course, level_at
from platelights.courses import level_course, setting_back, setting_sum, turned_course
from platelights.errors import InvalidCourse, InvalidFraction, InvalidNumber, InvalidNumbers, InvalidParts, InvalidSamples
from platelights.errors import InvalidSetting
from platelights.settings import is_setting
from tests.cases import NO_TUPLES, NO_WHOLES, PRICKLY, STRANGE, Argument, Case, wrong_rows
from tests.reckon import double_of, level_of, pair_of, row_of, worth
from tests.values import BIG, WRONG_COURSES, WRONG_FRACTIONS, WRONG_SETTINGS, Draw

MALUS = (1, 0, 1, 0, 0, 1)
BOTH = (0, 0, 2, 0, 0, 1)
NOUGHT = (0, 0, 0, 0, 0, 1)
EDGES = (
    MALUS, BOTH, NOUGHT, (1, 0, 2, 0, 1, 2), (0, 0, 0, 0, 1, 1), (-1, 2, -3, 4, -5, 6), (0, 1, 0, 0, 0, BIG),
    (BIG, 0, 0, -BIG, 1, 1),
)
SETTINGS = (
    (0, 1), (1, 0), (1, 1), (-1, 1), (1, 2), (-1, 2), (2, 1), (-2, 1), (3, 1), (7, 5), (-7, 5), (BIG, 1), (1, BIG),
    (-BIG, BIG + 1),
)


def course(draw):
    return row_of([draw.fraction()[0] / Fraction(draw.chance.randint(1, 6)) for _ in range(5)])


def some_courses(seed, many):
    draw = Draw(seed)
    return list(EDGES) + [course(draw) for _ in range(many)]


def angle_of(setting):
    return atan2(setting[0], setting[1]) % pi


class CoursesTest(Case):

    def test_what_is_a_course(self):
        for told in some_courses(1, 20):
            self.gives(True, is_course, told)
        for number, value in enumerate(WRONG_COURSES):
            with self.subTest(number=number):
                self.gives(False, is_course, value)

    def test_examples(self):
        self.gives((4, 5), level_at, MALUS, (1, 2))
        self.gives((0, 1), level_at, MALUS, (1, 0))
        self.gives((1, 0, 2, 0, 1, 2), level_course, (1, 2))
        self.gives((1, 0, 0, 0, -1, 2), course_less, MALUS, (1, 0, 2, 0, 1, 2))
        self.gives((1, -2, 2, -2, 1, 2), turned_course, MALUS, (1, 1))
        self.gives(((1, 2), (1, 2), (0, 1), (0, 1), (0, 1)), course_parts, MALUS)
        self.gives((1, 1), setting_sum, (1, 2), (1, 3))
        self.gives(BOTH, course_of_parts, ((1, 4), (0, 1), (0, 1), (-1, 4), (0, 1)))
        samples = (((0, 1), (1, 1)), ((1, 1), (1, 2)), ((-1, 1), (1, 2)), ((1, 0), (0, 1)), ((1, 2), (4, 5)))
        self.gives(MALUS, course_through, samples)

    def test_course_of(self):
        self.gives((1, 0, -2, 3, 0, 2), course_of, (2, 0, -4, 6, 0), 4)
        self.gives(NOUGHT, course_of, (0, 0, 0, 0, 0), 7)
        self.gives((-1, 0, 0, 0, 0, 1), course_of, (-BIG, 0, 0, 0, 0), BIG)
        self.gives((1, 2, 3, 4, 5, 1), course_of, (1, 2, 3, 4, 5), 1)
        self.checks_arguments(
            course_of,
            Argument("numbers", (2, 0, 4, 6, 0), InvalidNumbers, list(STRANGE) + wrong_rows((1, 2, 3, 4, 5)) + [0]),
            Argument("below", 4, InvalidNumber, NO_WHOLES + (0, -1, -BIG)),
        )

    def test_levels(self):
        for told in some_courses(2, 20):
            for setting in SETTINGS:
                self.gives(pair_of(level_of(told, setting)), level_at, told, setting)
        self.checks_arguments(
            level_at,
            Argument("course", MALUS, InvalidCourse, WRONG_COURSES),
            Argument("setting", (1, 0), InvalidSetting, WRONG_SETTINGS),
        )

    def test_level_course(self):
        for level in ((0, 1), (1, 1), (-1, 1), (3, 4), (-5, 2), (BIG, 7), (1, BIG), (1, 2), (2, 3)):
            told = level_course(level)
            self.gives(told, level_course, level)
            self.assertTrue(is_course(told))
            for setting in SETTINGS:
                self.assertEqual(level_of(told, setting), worth(level))
        self.checks_arguments(level_course, Argument("level", (-1, 2), InvalidFraction, WRONG_FRACTIONS))

    def test_course_less(self):
        for told in some_courses(3, 12):
            for other in some_courses(4, 12):
                less = course_less(told, other)
                self.assertTrue(is_course(less))
                for setting in SETTINGS[:6]:
                    self.assertEqual(level_of(less, setting), level_of(told, setting) - level_of(other, setting))
            self.gives(NOUGHT, course_less, told, told)
            self.gives(told, course_less, told, NOUGHT)
        self.checks_arguments(
            course_less,
            Argument("course", MALUS, InvalidCourse, WRONG_COURSES),
            Argument("other", BOTH, InvalidCourse, WRONG_COURSES),
        )

    def test_turned_course(self):
        for told in some_courses(5, 12):
            for setting in SETTINGS:
                turned = turned_course(told, setting)
                self.assertTrue(is_course(turned))
                for other in SETTINGS:
                    self.assertEqual(level_of(turned, other), level_of(told, setting_sum(other, setting)))
            self.gives(told, turned_course, told, (0, 1))
        self.gives((0, 0, 1, 0, 1, 1), turned_course, MALUS, (1, 0))
        self.checks_arguments(
            turned_course,
            Argument("course", MALUS, InvalidCourse, WRONG_COURSES),
            Argument("setting", (1, 1), InvalidSetting, WRONG_SETTINGS),
        )

    def test_parts(self):
        for told in some_courses(6, 30):
            parts = course_parts(told)
            self.gives(parts, course_parts, told)
            self.gives(told, course_of_parts, parts)
            m, p, q, u, v = [worth(part) for part in parts]
            for setting in SETTINGS:
                c, s = double_of(setting)
                self.assertEqual(level_of(told, setting), m + p * c + q * s + u * (c * c - s * s) + v * 2 * c * s)
        self.checks_arguments(course_parts, Argument("course", MALUS, InvalidCourse, WRONG_COURSES))

    def test_courses_of_parts(self):
        draw = Draw(7)
        for _ in range(60):
            parts = tuple([draw.fraction() for _ in range(5)])
            told = course_of_parts(parts)
            self.gives(told, course_of_parts, parts)
            self.assertTrue(is_course(told))
            self.assertEqual(course_parts(told), parts)
        for at in range(5):
            parts = tuple([(1, 1) if place == at else (0, 1) for place in range(5)])
            self.assertEqual(course_parts(course_of_parts(parts)), parts)

    def test_wrong_parts(self):
        right = ((1, 4), (0, 1), (0, 1), (-1, 4), (0, 1))
        indexed = [(value, None) for value in NO_TUPLES] + [(right[:4], None), (right + ((0, 1),), None), ((), None)]
        indexed += [(list(right), None), ((PRICKLY,) * 6, None)]
        for at in range(5):
            for wrong in WRONG_FRACTIONS:
                indexed.append((right[:at] + (wrong,) + right[at + 1:], at))
        indexed += [((1, 1, 1, 1, 1), 0), (right[:2] + (None, None, PRICKLY), 2)]
        self.checks_arguments(course_of_parts, Argument("parts", right, InvalidParts, (), indexed))

    def test_courses_through_samples(self):
        draw = Draw(8)
        for told in some_courses(9, 40):
            settings = draw.chance.sample(SETTINGS, 5)
            samples = tuple([(setting, pair_of(level_of(told, setting))) for setting in settings])
            self.gives(told, course_through, samples)
        for _ in range(40):
            settings = draw.chance.sample(SETTINGS, 5)
            samples = tuple([(setting, draw.fraction()) for setting in settings])
            told = course_through(samples)
            self.gives(told, course_through, samples)
            self.assertTrue(is_course(told))
            for setting, level in samples:
                self.assertEqual(level_of(told, setting), worth(level))

    def test_wrong_samples(self):
        right = tuple([(setting, (at, 7)) for at, setting in enumerate(((0, 1), (1, 1), (-1, 1), (1, 0), (1, 2)), 1)])
        indexed = [(value, None) for value in NO_TUPLES] + [(right[:4], None), (right + (((2, 1), (0, 1)),), None)]
        indexed += [((), None), (list(right), None), ((PRICKLY,) * 6, None)]
        wrong = [((1, 3), value) for value in (None, 1, (2, 4), (1, 0), (True, 2), PRICKLY, [1, 2])]
        wrong += [(value, (1, 2)) for value in (None, 1, (2, 4), (-1, 0), (True, 2), PRICKLY, [1, 3])]
        wrong += list(STRANGE) + [0, (), ((1, 3),), ((1, 3), (1, 2), (1, 2)), [(1, 3), (1, 2)], (1, 3, 1, 2)]
        for at in range(5):
            indexed += [(right[:at] + (value,) + right[at + 1:], at) for value in wrong]
            indexed += [(right[:at] + (right[early],) + right[at + 1:], at) for early in range(at)]
            indexed += [(right[:at] + ((right[early][0], (5, 3)),) + right[at + 1:], at) for early in range(at)]
        # The second one has the setting of the first one, before what is wrong by itself.
        indexed += [((right[0], right[0], None, None, None), 1), ((right[0], None, right[0], None, None), 1)]
        self.checks_arguments(course_through, Argument("samples", right, InvalidSamples, (), indexed))

    def test_settings_added(self):
        for setting in SETTINGS[:11]:
            for other in SETTINGS[:11]:
                told = setting_sum(setting, other)
                self.gives(told, setting_sum, setting, other)
                self.assertTrue(is_setting(told), told)
                apart = (angle_of(told) - angle_of(setting) - angle_of(other)) % pi
                self.assertLess(min(apart, pi - apart), 1e-9)
                (c, s), (e, t) = double_of(setting), double_of(other)
                self.assertEqual(double_of(told), (c * e - s * t, s * e + c * t))
        self.gives((0, 1), setting_sum, (1, 0), (1, 0))
        self.gives((1, 0), setting_sum, (1, 0), (0, 1))
        self.gives((1, 0), setting_sum, (1, 1), (1, 1))
        self.gives((1, 0), setting_sum, (-1, 1), (-1, 1))
        self.gives((0, 1), setting_sum, (-7, 5), (7, 5))
        self.gives((-1, 1), setting_sum, (1, 0), (1, 1))
        self.gives((-4, 3), setting_sum, (2, 1), (2, 1))
        self.gives((4, 3), setting_sum, (-2, 1), (-2, 1))
        self.checks_arguments(
            setting_sum,
            Argument("setting", (1, 2), InvalidSetting, WRONG_SETTINGS),
            Argument("other", (1, 0), InvalidSetting, WRONG_SETTINGS),
        )

    def test_settings_back(self):
        for setting in SETTINGS:
            told = (1, 0) if setting == (1, 0) else (-setting[0], setting[1])
            self.gives(told, setting_back, setting)
            self.assertEqual(setting_sum(setting, told), (0, 1))
        self.checks_arguments(setting_back, Argument("setting", (1, 2), InvalidSetting, WRONG_SETTINGS))


if __name__ == "__main__":
    unittest.main()
