"""Points [3] to [6] and platelights/fractions.py: fractions and surds."""

import unittest
from fractions import Fraction
from math import isqrt

from platelights.errors import InvalidFraction, InvalidNumber, InvalidSurd
from platelights.fractions import compare, fraction_of, is_fraction, is_surd, nearest, surd_of
from tests.cases import NO_WHOLES, PRICKLY, STRANGE, Argument, Case
from tests.reckon import compared_with_root, compared_with_surd, pair_of, worth
from tests.values import BIG, WRONG_FRACTIONS, Draw

ROOT_2 = ((0, 1), 1, (2, 1))
RIGHT_SURDS = (
    ROOT_2, ((0, 1), 0, (0, 1)), ((-3, 2), 0, (0, 1)), ((1, 2), 1, (9, 2)), ((-1, 2), -1, (1, 2)), ((5, 1), -1, (2, 9)),
    ((0, 1), 1, (1, 3)), ((BIG, 7), 1, (BIG + 1, BIG)), ((0, 1), -1, (12, 1)),
)
WRONG_SURDS = list(STRANGE) + [
    0, (), ((0, 1), 1), ((0, 1), 1, (2, 1), 0), [(0, 1), 1, (2, 1)], (0, 1, 2), ((0, 1), 0, (2, 1)), ((0, 1), 0, (1, 1)),
    ((0, 1), 1, (0, 1)), ((0, 1), -1, (0, 1)), ((0, 1), 1, (4, 1)), ((0, 1), -1, (9, 4)), ((0, 1), 1, (1, 1)),
    ((0, 1), 1, (-2, 1)), ((0, 1), -1, (-2, 1)), ((0, 1), 0, (-1, 1)), ((0, 1), 2, (2, 1)), ((0, 1), -2, (2, 1)),
    ((0, 2), 1, (2, 1)), ((2, 4), 1, (2, 1)), ((0, 1), 1, (4, 2)), ((1, -2), 1, (2, 1)), ((0, 1), 1, (2, -1)),
    ((0, 1), True, (2, 1)), ((0, 1), False, (0, 1)), ((0, 1), None, (2, 1)), ((0, 1), "1", (2, 1)), (0, 1, (2, 1)),
    ((0, 1), 1, 2), ((0, 1), 1, [2, 1]), ([0, 1], 1, (2, 1)), ((0, True), 1, (2, 1)), ((0, 1), 1, (2, True)),
    (PRICKLY, 1, (2, 1)), ((0, 1), PRICKLY, (2, 1)), ((0, 1), 1, PRICKLY), ((0, 1), 0, (0, 2)), ((0, 1), 1, (2, 0)),
    ((0, 1), 1, (BIG * BIG, 1)), ((0, 1), 1, (1, BIG * BIG)), ((1, 0), 1, (2, 1)), ((0, 1), (1,), (2, 1)),
]


class FractionsTest(Case):

    def test_what_is_a_fraction(self):
        for p, q in ((0, 1), (1, 1), (-1, 1), (1, 2), (-3, 2), (BIG, BIG + 1), (-BIG, 7), (6, 35)):
            self.gives(True, is_fraction, (p, q))
        for number, value in enumerate(WRONG_FRACTIONS):
            with self.subTest(number=number):
                self.gives(False, is_fraction, value)

    def test_what_is_a_surd(self):
        for value in RIGHT_SURDS:
            self.gives(True, is_surd, value)
        for number, value in enumerate(WRONG_SURDS):
            with self.subTest(number=number):
                self.gives(False, is_surd, value)

    def test_what_is_a_surd_where_one_part_of_the_square_is_a_square(self):
        for square in ((4, 3), (3, 4), (1, 2), (2, 1), (9, 8), (8, 9), (50, 1), (1, 50)):
            self.gives(True, is_surd, ((0, 1), 1, square))
        for square in ((4, 9), (9, 4), (1, 4), (25, 1), (49, 100)):
            self.gives(False, is_surd, ((0, 1), 1, square))

    def test_examples(self):
        self.gives((-3, 2), fraction_of, 6, -4)
        self.gives(((1, 2), 1, (9, 2)), surd_of, (1, 2), 3, (1, 2))
        self.gives(((2, 1), 0, (0, 1)), surd_of, (1, 2), 1, (9, 4))
        self.gives(((0, 1), -1, (12, 1)), surd_of, (0, 1), -2, (3, 1))
        self.gives(-1, compare, ((1, 1), 1, (2, 1)), ((0, 1), 1, (6, 1)))
        self.gives(1414, nearest, ROOT_2, 3)
        self.gives(-1, nearest, ((1, 2), -1, (5, 4)), 0)

    def test_fraction_of(self):
        for p in list(range(-12, 13)) + [BIG, -BIG, 2 * BIG]:
            for q in [number for number in range(-12, 13) if number != 0] + [BIG, -BIG]:
                self.gives(pair_of(Fraction(p, q)), fraction_of, p, q)

    def test_wrong_arguments_of_fraction_of(self):
        self.checks_arguments(
            fraction_of,
            Argument("p", 3, InvalidNumber, NO_WHOLES),
            Argument("q", 4, InvalidNumber, NO_WHOLES + (0,)),
        )
        # A wrong second number is told only if the first one is right, and the other way round.
        self.refuses(InvalidNumber, "given", None, lambda: fraction_of(None, 0))
        self.refuses(InvalidNumber, "given", 0, lambda: fraction_of(0, 0))

    def test_surd_of_is_the_number_in_its_one_form(self):
        draw = Draw(1)
        squares = [(0, 1), (1, 1), (4, 9), (9, 4), (2, 1), (1, 2), (8, 9), (1, 12), (BIG * BIG, 49), (BIG, 49)]
        for square in squares + [pair_of(abs(worth(draw.fraction()))) for _ in range(20)]:
            for factor in (-7, -2, -1, 0, 1, 2, 3, BIG):
                part = draw.fraction()
                surd = surd_of(part, factor, square)
                self.gives(surd, surd_of, part, factor, square)
                self.assertTrue(is_surd(surd))
                whole = factor * factor * worth(square)
                sign = (factor > 0) - (factor < 0)
                root = Fraction(isqrt(whole.numerator), isqrt(whole.denominator))
                if root * root == whole:
                    self.assertEqual(surd, (pair_of(worth(part) + sign * root), 0, (0, 1)))
                else:
                    self.assertEqual(surd, (part, sign, pair_of(whole)))

    def test_surd_of_nought(self):
        self.gives(((1, 2), 0, (0, 1)), surd_of, (1, 2), 0, (2, 1))
        self.gives(((1, 2), 0, (0, 1)), surd_of, (1, 2), 5, (0, 1))
        self.gives(((-1, 1), 0, (0, 1)), surd_of, (1, 2), -1, (9, 4))
        self.gives(((0, 1), 0, (0, 1)), surd_of, (3, 2), -1, (9, 4))

    def test_wrong_arguments_of_surd_of(self):
        self.checks_arguments(
            surd_of,
            Argument("part", (1, 2), InvalidFraction, WRONG_FRACTIONS),
            Argument("factor", 2, InvalidNumber, NO_WHOLES),
            Argument("square", (1, 2), InvalidFraction, WRONG_FRACTIONS + [(-1, 2), (-BIG, 1), (-4, 1)]),
        )

    def test_compare_with_fractions(self):
        draw = Draw(2)
        surds = list(RIGHT_SURDS) + [surd_of(draw.fraction(), draw.number(3), draw.share(40)) for _ in range(40)]
        for surd in surds:
            for _ in range(10):
                number = draw.fraction(12)
                want = -compared_with_surd(worth(number), surd)
                self.gives(want, compare, surd, (number, 0, (0, 1)))
                self.gives(-want, compare, (number, 0, (0, 1)), surd)

    def test_compare_surds_with_one_another(self):
        draw = Draw(3)
        surds = [surd_of(draw.fraction(4), draw.number(2), pair_of(abs(worth(draw.fraction(5))))) for _ in range(45)]
        for one in surds:
            for two in surds:
                self.assertEqual(compare(one, two), self.by_digits(one, two), (one, two))

    def by_digits(self, one, two):
        """-1, 0 or 1 by 60 digits of each, which is enough for small numbers; equal surds are the same tuple."""
        if one == two:
            return 0
        low, high = self.digits(one), self.digits(two)
        self.assertGreater(abs(low - high), 2)
        return -1 if low < high else 1

    def digits(self, surd):
        """A surd times 10 to the power of 60, but for 2."""
        part, sign, square = surd
        power = 10 ** 60
        return part[0] * power // part[1] + sign * isqrt(square[0] * power * power // square[1])

    def test_compare_surds_near_one_another(self):
        for size in (10 ** 3, 10 ** 20, 10 ** 50):
            # The root of size * size + 1 is a little less than size + 1 / (2 size).
            root = ((0, 1), 1, (size * size + 1, 1))
            self.gives(1, compare, root, ((size, 1), 0, (0, 1)))
            self.gives(-1, compare, root, (pair_of(size + Fraction(1, 2 * size)), 0, (0, 1)))
            self.gives(1, compare, root, (pair_of(size + Fraction(1, 2 * size) - Fraction(1, 8 * size ** 3)), 0, (0, 1)))
            # root (n + 1) - root n lies between 1 / (2 root (n + 1)) and 1 / (2 root n).
            n = size * size + 1
            low, high = ((size, 1), 1, (n, 1)), ((size, 1), 1, (n + 1, 1))
            self.gives(-1, compare, low, high)
            self.gives(1, compare, high, low)
            self.gives(0, compare, high, high)
            self.gives(-1, compare, ((-size, 1), -1, (n + 1, 1)), ((-size, 1), -1, (n, 1)))
            # root n less the root of (size - 1) * (size - 1) + 1 is less than 1 by about 1 / (2 size * size).
            shifted = ((size + 1, 1), 1, (n - 2 * size + 1, 1))
            self.gives(-1, compare, low, shifted)
            self.gives(1, compare, shifted, low)

    def test_compare_where_roots_take_one_another_away(self):
        # 1 + root 2 and root 6 - 0, 3 - root 2 and root 2 + 1/10, and the like, with both signs.
        self.gives(1, compare, ((3, 1), -1, (2, 1)), ((1, 10), 1, (2, 1)))
        self.gives(-1, compare, ((14, 5), -1, (2, 1)), ((0, 1), 1, (2, 1)))
        self.gives(1, compare, ((0, 1), 1, (2, 1)), ((0, 1), -1, (3, 1)))
        self.gives(-1, compare, ((0, 1), -1, (3, 1)), ((0, 1), -1, (2, 1)))
        self.gives(1, compare, ((0, 1), -1, (2, 1)), ((-3, 1), -1, (1, 100000)))
        self.gives(-1, compare, ((-3, 1), 1, (2, 1)), ((0, 1), -1, (5, 4)))
        self.gives(0, compare, ((-3, 1), 1, (2, 1)), ((-3, 1), 1, (2, 1)))
        self.gives(1, compare, ((1, 2), 1, (2, 1)), ((1, 3), 1, (2, 1)))
        self.gives(-1, compare, ((1, 3), -1, (2, 1)), ((1, 2), -1, (2, 1)))

    def test_wrong_arguments_of_compare(self):
        self.checks_arguments(
            compare,
            Argument("surd", ROOT_2, InvalidSurd, WRONG_SURDS),
            Argument("other", ((1, 2), 0, (0, 1)), InvalidSurd, WRONG_SURDS),
        )

    def test_nearest_is_the_greatest_whole_number_not_above(self):
        draw = Draw(4)
        surds = list(RIGHT_SURDS) + [surd_of(draw.fraction(), draw.number(3), draw.share(40)) for _ in range(30)]
        for surd in surds:
            for digits in (0, 1, 2, 7, 29, 30):
                told = nearest(surd, digits)
                self.gives(told, nearest, surd, digits)
                power = 10 ** digits
                self.assertLessEqual(compared_with_surd(Fraction(told, power), surd), 0, (surd, digits))
                self.assertGreater(compared_with_surd(Fraction(told + 1, power), surd), 0, (surd, digits))

    def test_nearest_at_its_edges(self):
        self.gives(1, nearest, ROOT_2, 0)
        self.gives(1414213562373095048801688724209, nearest, ROOT_2, 30)
        self.gives(-2, nearest, ((0, 1), -1, (2, 1)), 0)
        self.gives(-1414213562373095048801688724210, nearest, ((0, 1), -1, (2, 1)), 30)
        for part, digits, want in (
            ((0, 1), 0, 0), ((0, 1), 30, 0), ((-1, 1), 0, -1), ((-1, 2), 0, -1), ((-1, 2), 1, -5), ((-1, 3), 1, -4),
            ((1, 3), 30, int("3" * 30)), ((-1, 3), 30, -int("3" * 29 + "4")), ((7, 1), 2, 700), ((7, 2), 0, 3),
        ):
            self.gives(want, nearest, (part, 0, (0, 1)), digits)

    def test_wrong_arguments_of_nearest(self):
        self.checks_arguments(
            nearest,
            Argument("surd", ROOT_2, InvalidSurd, WRONG_SURDS),
            Argument("digits", 3, InvalidNumber, NO_WHOLES + (-1, 31, -BIG, BIG)),
        )

    def test_the_tests_own_comparing(self):
        for number in range(-6, 7):
            for sign in (-1, 0, 1):
                for square in (0, 2, 4, 9, 20):
                    told = compared_with_root(Fraction(number), sign, Fraction(square))
                    root = sign * square ** 0.5
                    self.assertEqual(told, (number > root) - (number < root))


if __name__ == "__main__":
    unittest.main()
