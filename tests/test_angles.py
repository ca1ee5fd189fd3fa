"""Points [27], [28] and platelights/angles.py: courses at all angles, whether or not a setting tells them."""

import unittest
from fractions import Fraction
from math import atan, cos, isqrt, pi, sin, sqrt

from platelights.angles import angles_with, compare_courses, compare_greatest, compare_least, level_tale, setting_above
from platelights.angles import setting_below, square_number, swing_tale, tops
from platelights.courses import course_of, level_course, turned_course
from platelights.errors import InvalidCourse, InvalidFraction
from platelights.fractions import is_fraction
from platelights.settings import is_setting
from tests.cases import Argument, Case
from tests.reckon import level_of, pair_of, row_of, worth
from tests.values import BIG, WRONG_COURSES, WRONG_FRACTIONS, Draw

MALUS, BOTH, HALF = (1, 0, 1, 0, 0, 1), (0, 0, 2, 0, 0, 1), (1, 0, 2, 0, 1, 2)
NOUGHT = (0, 0, 0, 0, 0, 1)
# Factors of forms in h = a / b: their numbers, the lowest power first, and their roots as angles.
STEEP = pi / 2
FACTORS = (
    ((0, 1), (0.0,)), ((1, 0), (STEEP,)), ((-1, 1), (atan(1),)), ((1, 1), (atan(-1) % pi,)), ((-3, 2), (atan(1.5),)),
    ((5, 1), (atan(-5) % pi,)), ((-1, 100), (atan(0.01),)), ((1, 100), (atan(-0.01) % pi,)), ((100, 1), (atan(-100) % pi,)),
    ((-2, 0, 1), (atan(sqrt(2)), atan(-sqrt(2)) % pi)), ((-1, -2, 1), (atan(1 + sqrt(2)), atan(1 - sqrt(2)) % pi)),
    ((1, 3, 1), (atan((-3 + sqrt(5)) / 2) % pi, atan((-3 - sqrt(5)) / 2) % pi)), ((1, 0, 1), ()), ((1, 1, 3), ()),
    ((2, -1, 1), ()),
)


def multiplied(one, two):
    whole = [0] * (len(one) + len(two) - 1)
    for at, first in enumerate(one):
        for place, second in enumerate(two):
            whole[at + place] += first * second
    return whole


def form_of(factors, side=1):
    """The five numbers of the product of factors, and the angles at which it is 0, ascending."""
    numbers, roots = [side], []
    for row, own in factors:
        numbers = multiplied(numbers, row)
        roots += [angle for angle in own if all(abs(angle - other) > 1e-9 for other in roots)]
    assert len(numbers) == 5
    return tuple(numbers), sorted(roots)


def sign(number):
    return (number > 0) - (number < 0)


def sign_near(numbers, angle):
    a, b = sin(angle), cos(angle)
    return sign(sum(number * a ** at * b ** (4 - at) for at, number in enumerate(numbers)))


def signs_of(numbers, roots):
    """The signs of a form at all angles from 0 on, its roots being known."""
    ends = roots + [pi]
    signs = [] if roots and roots[0] == 0.0 else [sign_near(numbers, ends[0] / 2)]
    for root, following in zip(roots, ends[1:]):
        signs += [0, sign_near(numbers, (root + following) / 2)]
    return signs


def drawn_form(draw):
    """A form that is a product of factors, and its signs."""
    while True:
        factors = [draw.chance.choice(FACTORS) for _ in range(draw.chance.randint(2, 4))]
        if sum(len(row) - 1 for row, _ in factors) == 4:
            numbers, roots = form_of(factors, draw.chance.choice((1, -1, 3)))
            return numbers, signs_of(numbers, roots)


def lifted(numbers, level):
    """The course of a form and a level added to it."""
    return row_of([number + level * more for number, more in zip(numbers, (1, 0, 2, 0, 1))])


def tale_of(signs, words):
    return tuple([words[one + 1] for one in signs])


class AnglesTest(Case):

    def test_examples(self):
        self.gives(0, compare_least, MALUS, (0, 1))
        self.gives(0, compare_greatest, MALUS, (1, 1))
        self.gives(1, compare_least, MALUS, (-1, 3))
        self.gives(0, compare_greatest, BOTH, (1, 2))
        self.gives(2, angles_with, MALUS, (1, 2))
        self.gives(1, angles_with, MALUS, (1, 1))
        self.gives(4, angles_with, BOTH, (1, 8))
        self.gives(None, angles_with, HALF, (1, 2))
        self.gives(None, setting_below, MALUS, (0, 1))
        self.gives(("above", "at", "below", "at", "above"), level_tale, MALUS, (1, 2))
        self.gives(("at", "above", "at", "above"), level_tale, BOTH, (0, 1))
        self.gives(("still", "falls", "still", "rises"), swing_tale, MALUS)
        self.gives(("still",), swing_tale, HALF)
        for course, many in ((MALUS, 1), (BOTH, 2), (HALF, 0)):
            self.gives(many, tops, course)
        self.gives("crossing", compare_courses, MALUS, HALF)
        self.gives("not below", compare_courses, MALUS, level_course((0, 1)))
        self.gives("crossing", compare_courses, HALF, MALUS)
        self.gives("above", compare_courses, HALF, level_course((1, 3)))
        self.gives("not above", compare_courses, BOTH, HALF)
        self.gives(None, square_number, MALUS)

    def check_signs(self, course, level, signs):
        """Check all that is told of a course and a level, the signs of their difference being known."""
        self.gives(tale_of(signs, ("below", "at", "above")), level_tale, course, level)
        self.gives(min(signs), compare_least, course, level)
        self.gives(max(signs), compare_greatest, course, level)
        self.gives(None if signs == [0] else signs.count(0), angles_with, course, level)
        for function, side in ((setting_below, -1), (setting_above, 1)):
            told = function(course, level)
            self.gives(told, function, course, level)
            self.assertEqual(told is not None, side in signs)
            if told is not None:
                self.assertTrue(is_setting(told))
                self.assertEqual(sign(level_of(course, told) - worth(level)), side)

    def test_levels_of_known_forms(self):
        draw, seen = Draw(1), set()
        for _ in range(300):
            numbers, signs = drawn_form(draw)
            level = draw.fraction()
            seen.add((signs.count(0), signs[0] == 0))
            self.check_signs(lifted(numbers, worth(level)), level, signs)
        self.assertEqual(seen, {(many, flat) for many in range(1, 5) for flat in (True, False)} | {(0, False)})

    def test_levels_at_edges(self):
        for level in ((0, 1), (1, 2), (-3, 7), (BIG, 3)):
            self.check_signs(level_course(level), level, [0])
            self.check_signs(level_course(level), (level[0] - 1, level[1]) if level[1] == 1 else (-BIG, 1), [1])
            self.check_signs(level_course(level), (BIG + 1, 1), [-1])
        self.check_signs(MALUS, (0, 1), [1, 0, 1])
        self.check_signs(MALUS, (1, 1), [0, -1])
        self.check_signs((0, 0, 0, 0, 1, 1), (0, 1), [0, 1])
        self.check_signs((0, 0, 0, 1, 0, 1), (0, 1), [0, 1, 0, -1])
        self.check_signs((0, 1, 0, 0, 0, 1), (0, 1), [0, 1, 0, -1])
        self.check_signs((0, 1, 0, 1, 0, 1), (0, 1), [0, 1, 0, -1])
        self.check_signs((0, -1, 0, -1, 0, 1), (0, 1), [0, -1, 0, 1])
        self.check_signs((0, 0, -1, 0, 0, 1), (0, 1), [0, -1, 0, -1])
        self.check_signs((-1, 0, 0, 0, 0, 1), (0, 1), [-1, 0, -1])
        self.check_signs((0, 0, 1, -2, 1, 1), (0, 1), [0, 1, 0, 1])
        # The square of h h - 2, which is 0 at angles that no setting tells, and close to it.
        self.check_signs((4, 0, -4, 0, 1, 1), (0, 1), [1, 0, 1, 0, 1])
        self.check_signs((4, 0, -4, 0, 1, 1), (1, BIG), [1, 0, -1, 0, 1, 0, -1, 0, 1])
        self.check_signs((4, 0, -4, 0, 1, 1), (-1, BIG), [1])

    def test_ends_that_are_no_fractions(self):
        # m + p C + q S with m = 3, p = 1, q = 2: the ends are 3 - root 5 and 3 + root 5.
        course = course_of((4, 4, 6, 4, 2), 1)
        self.gives(-1, compare_greatest, course, (6, 1))
        self.gives(1, compare_greatest, course, (5, 1))
        for below in (10, 10 ** 9, BIG):
            root, step = Fraction(isqrt(5 * below * below), below), Fraction(1, below)
            above, beneath = pair_of(3 + root + step), pair_of(3 - root - step)
            self.check_signs(course, above, [-1])
            self.check_signs(course, beneath, [1])
            for level in (pair_of(3 + root), pair_of(3 - root)):
                self.gives(-1, compare_least, course, level)
                self.gives(1, compare_greatest, course, level)
                self.gives(2, angles_with, course, level)
        self.gives(("rises", "still", "falls", "still", "rises"), swing_tale, course)
        self.gives(1, tops, course)

    def test_roots_close_to_one_another(self):
        close = [(-BIG, BIG + 1), (-1, 1), (1 - BIG, BIG), (0, 1)]
        numbers = [1]
        for row in close:
            numbers = multiplied(numbers, row)
        self.check_signs(course_of(tuple(numbers), 1), (0, 1), [0, -1, 0, 1, 0, -1, 0, 1])
        mirrored = tuple([number if at % 2 == 0 else -number for at, number in enumerate(numbers)])
        self.check_signs(course_of(mirrored, 1), (0, 1), [0, 1, 0, -1, 0, 1, 0, -1])
        turned = turned_course(course_of(tuple(numbers), 1), (1, 1))
        self.check_signs(turned, (0, 1), [0, 1, 0, -1, 0, 1, 0, -1])
        steep = tuple(reversed(numbers))
        self.check_signs(course_of(steep, 1), (0, 1), [1, 0, -1, 0, 1, 0, -1, 0, 1])

    def swing_of(self, course):
        """The signs of the swing, by the levels at many angles, neighbours that are alike told once."""
        many = 4000
        f, d = course[:5], course[5]
        levels = []
        for step in range(many + 1):
            a, b = sin(pi * (step - 0.5) / many), cos(pi * (step - 0.5) / many)
            levels.append(sum(number * a ** at * b ** (4 - at) for at, number in enumerate(f)) / d)
        found = []
        for one, two in zip(levels, levels[1:]):
            if not found or found[-1] != sign(two - one):
                found.append(sign(two - one))
        return found

    def test_swings_of_drawn_courses(self):
        draw, seen = Draw(2), set()
        for _ in range(120):
            course = row_of([draw.number(6) + Fraction(1, draw.chance.randint(2, 9)) for _ in range(5)])
            turns = self.swing_of(course)
            signs = [turns[0]]
            for one in turns[1:]:
                signs += [0, one]
            self.gives(tale_of(signs, ("falls", "still", "rises")), swing_tale, course)
            around = turns if turns[0] != turns[-1] else turns[:-1]
            many = sum(1 for one, two in zip(around, around[1:] + around[:1]) if (one, two) == (1, -1))
            seen.add(many)
            self.gives(many, tops, course)
        self.assertEqual(seen, {1, 2})

    def test_swings_at_edges(self):
        for course, signs, many in (
            (NOUGHT, [0], 0), (level_course((3, 7)), [0], 0), ((0, 0, 0, 0, 1, 1), [0, 1, 0, -1], 1),
            ((1, 0, 0, 0, 0, 1), [0, -1, 0, 1], 1), (BOTH, [0, 1, 0, -1, 0, 1, 0, -1], 2),
            ((0, 0, -1, 0, 0, 1), [0, -1, 0, 1, 0, -1, 0, 1], 2),
            # The slope of a b b b falls on both sides of the still angle (1, 0), and is 0 where a / b is 1 / root 3.
            ((0, 1, 0, 0, 0, 1), [1, 0, -1, 0, -1, 0, 1], 1), ((0, -1, 0, 0, 0, 1), [-1, 0, 1, 0, 1, 0, -1], 1),
            # With p = 4 and u = 1 the slope is - 4 S - 4 C S: still at C = -1 thrice over, and at S = 0.
            ((5, 0, -6, 0, -3, 1), [0, -1, 0, 1], 1), ((-5, 0, 6, 0, 3, 1), [0, 1, 0, -1], 1),
        ):
            self.gives(tale_of(signs, ("falls", "still", "rises")), swing_tale, course)
            self.gives(many, tops, course)

    def test_still_at_the_angle_nought_without_a_turn(self):
        found = []
        for q in range(-4, 5):
            for v in range(-4, 5):
                for p in range(-4, 5):
                    for u in range(-4, 5):
                        course = course_of((p + u, 2 * q + 4 * v, -6 * u, 2 * q - 4 * v, u - p), 1)
                        g = (course[1], 2 * course[2] - 4 * course[0], 3 * course[3] - 3 * course[1],
                             4 * course[4] - 2 * course[2], -course[3])
                        if g[0] == 0 and g[1] == 0 and g[2] != 0 and any(g):
                            found.append((course, g))
        self.assertGreater(len(found), 5)
        for course, g in found:
            tale = swing_tale(course)
            # The angle 0 is still, and before and behind it the course goes the same way.
            self.assertEqual(tale[0], "still")
            self.assertEqual(tale[1], tale[-1])
            self.assertEqual(tale[1], "rises" if g[2] > 0 else "falls")
            self.gives(1, tops, course)

    def word_of(self, signs):
        """The word for two courses, of the signs of their difference."""
        if signs == [0]:
            return "same"
        if 1 in signs and -1 in signs:
            return "crossing"
        if 1 in signs:
            return "not below" if 0 in signs else "above"
        return "not above" if 0 in signs else "below"

    def test_courses_compared(self):
        draw, seen = Draw(3), {}
        for _ in range(200):
            numbers, signs = drawn_form(draw)
            other = row_of([draw.fraction()[0] / Fraction(draw.chance.randint(1, 5)) for _ in range(5)])
            more = [Fraction(number, other[5]) for number in other[:5]]
            course = row_of([one + two for one, two in zip(numbers, more)])
            word, back = self.word_of(signs), self.word_of([-one for one in signs])
            seen[word] = seen.get(word, 0) + 1
            self.gives(word, compare_courses, course, other)
            self.gives(back, compare_courses, other, course)
            self.gives("same", compare_courses, course, course)
        self.assertGreater(min(seen.values()), 3)
        self.assertEqual(len(seen), 5)
        self.gives("below", compare_courses, (0, 0, 0, 0, 0, 1), (4, 0, -3, 0, 1, 1))
        self.gives("not above", compare_courses, (0, 0, 0, 0, 0, 1), (4, 0, -4, 0, 1, 1))
        self.gives("not below", compare_courses, (4, 0, -4, 0, 1, 1), (0, 0, 0, 0, 0, 1))
        self.gives("above", compare_courses, (4 * BIG, 0, 1 - 4 * BIG, 0, BIG, BIG), (0, 0, 0, 0, 0, 1))
        self.gives("crossing", compare_courses, (4 * BIG, 0, -1 - 4 * BIG, 0, BIG, BIG), (0, 0, 0, 0, 0, 1))

    def check_square_number(self, course):
        """Check that the minors of the square table are above 0."""
        told = square_number(course)
        self.gives(told, square_number, course)
        self.assertTrue(is_fraction(told), course)
        f0, f1, f2, f3, f4 = [Fraction(number) for number in course[:5]]
        t = worth(told)
        rows = ((f0, f1 / 2, t), (f1 / 2, f2 - 2 * t, f3 / 2), (t, f3 / 2, f4))
        (a, b, c), (d, e, f), (g, h, i) = rows
        self.assertGreater(a, 0)
        self.assertGreater(a * e - b * d, 0)
        self.assertGreater(a * (e * i - f * h) - b * (d * i - f * g) + c * (d * h - e * g), 0)

    def test_square_numbers(self):
        draw, seen = Draw(4), {True: 0, False: 0}
        for _ in range(150):
            numbers, signs = drawn_form(draw)
            course = course_of(numbers, draw.chance.randint(1, 9))
            is_above = signs == [1]
            seen[is_above] += 1
            if is_above:
                self.check_square_number(course)
            else:
                self.gives(None, square_number, course)
        for _ in range(200):
            ends = draw.chance.randint(1, 9), draw.chance.randint(1, 9)
            course = row_of([ends[0], draw.number(9), draw.number(9), draw.number(9), ends[1]])
            is_above = compare_least(course, (0, 1)) == 1
            seen[is_above] += 1
            if is_above:
                self.check_square_number(course)
            else:
                self.gives(None, square_number, course)
        self.assertGreater(min(seen.values()), 60)

    def test_square_numbers_just_above_nought(self):
        # Squares of h h - 2, (h - 1) (h - 3), h and h h - h + 1, a little lifted.
        squares = (4, 0, -4, 0, 1), (9, -24, 22, -8, 1), (0, 0, 1, 0, 0), (1, -2, 3, -2, 1)
        for shift in (1, 10 ** 9, BIG):
            for square in squares:
                for lift in ((1, 0, 2, 0, 1), (1, 0, 0, 0, 1), (1, 0, 1, 0, 1)):
                    numbers = tuple([shift * one + two for one, two in zip(square, lift)])
                    self.check_square_number(course_of(numbers, shift))
                    self.check_square_number(course_of(numbers, 7))
        for square in squares[:3]:
            self.gives(None, square_number, course_of(square, 3))
        self.check_square_number(course_of(squares[3], 3))
        self.check_square_number(level_course((1, BIG)))
        # With m m = 24 s s - 8 the form 3 s - m h h + 2 s h h h h is just above 0, and t is to be ever closer to - m / 2.
        m, s = 4, 1
        for _ in range(60):
            self.check_square_number(course_of((3 * s, 0, -m, 0, 2 * s), 1))
            self.check_square_number(turned_course(course_of((3 * s, 0, -m, 0, 2 * s), 5), (1, 2)))
            self.gives(None, square_number, course_of((3 * s, 0, -m - 1, 0, 2 * s), 1))
            m, s = 5 * m + 24 * s, m + 5 * s
        for course in (NOUGHT, level_course((-1, 3)), MALUS, BOTH, (0, 0, 0, 0, -1, 1), (-1, 0, -2, 0, -1, BIG)):
            self.gives(None, square_number, course)

    def test_many_figures(self):
        draw = Draw(5)
        for _ in range(4):
            numbers = tuple([draw.number(10 ** 350) for _ in range(5)])
            course = course_of(numbers, 10 ** 350 + 1)
            tale = level_tale(course, (1, 3))
            self.gives(tale, level_tale, course, (1, 3))
            self.assertEqual(tale.count("at"), angles_with(course, (1, 3)))
            self.assertIn(swing_tale(course).count("still"), (2, 4))
        # Courses of squares of five figures times as long, just above 0, at 0 and just below it.
        far = 10 ** 200
        for side, signs in ((1, [1]), (0, [1, 0, 1, 0, 1]), (-1, [1, 0, -1, 0, 1, 0, -1, 0, 1])):
            numbers = [one + side * two for one, two in zip((far, -10 * far, 27 * far, -10 * far, far), (1, 0, 2, 0, 1))]
            self.check_signs(course_of(tuple(numbers), 7), (0, 1), signs)
            if side == 1:
                self.check_square_number(course_of(tuple(numbers), 7))

    def test_wrong_arguments(self):
        a_course = Argument("course", MALUS, InvalidCourse, WRONG_COURSES)
        a_level = Argument("level", (1, 2), InvalidFraction, WRONG_FRACTIONS)
        for function in (compare_least, compare_greatest, angles_with, setting_below, setting_above, level_tale):
            self.checks_arguments(function, a_course, a_level)
        for function in (swing_tale, tops, square_number):
            self.checks_arguments(function, a_course)
        self.checks_arguments(compare_courses, a_course, Argument("other", HALF, InvalidCourse, WRONG_COURSES))


if __name__ == "__main__":
    unittest.main()
