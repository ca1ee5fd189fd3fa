"""The helper of point [19]: polynomials of whole numbers and their roots by rows of Sturm."""

import unittest
from fractions import Fraction

from platelights.polynomials import common_divisor, polynomial_product, polynomial_sum, roots_within, sign_at
from platelights.polynomials import sign_at_root, stretches_of_roots, sturm_rows, trimmed
from tests.cases import Case
from tests.reckon import pair_of
from tests.values import Draw


def worth_at(polynomial, number):
    """What a polynomial is at a number."""
    return sum(part * number ** power for power, part in enumerate(polynomial))


def sign(number):
    return (number > 0) - (number < 0)


def with_roots(*roots):
    """The polynomial of whole numbers with these fractions for roots."""
    whole = (1,)
    for root in roots:
        whole = polynomial_product(whole, (-Fraction(root).numerator, Fraction(root).denominator))
    return whole


WHOLE = ((-100, 1), (100, 1))


class PolynomialsTest(Case):

    def test_sums_and_products(self):
        draw = Draw(1)
        for _ in range(60):
            one, two = trimmed(draw.row(draw.chance.randint(0, 5), 3)), trimmed(draw.row(draw.chance.randint(0, 5), 3))
            for number in range(-3, 4):
                self.assertEqual(worth_at(polynomial_sum(one, two), number), worth_at(one, number) + worth_at(two, number))
                told = polynomial_product(one, two)
                self.assertEqual(worth_at(told, number), worth_at(one, number) * worth_at(two, number))
                self.assertTrue(told == () or told[-1] != 0)
        self.assertEqual(polynomial_sum((1, 2, 3), (0, 0, -3)), (1, 2))
        self.assertEqual(polynomial_sum((1, 2), (-1, -2)), ())

    def test_signs_at_fractions(self):
        draw = Draw(2)
        for _ in range(100):
            polynomial, point = draw.row(5, 6), draw.fraction()
            self.assertEqual(sign_at(polynomial, point), sign(worth_at(polynomial, Fraction(*point))))
        self.assertEqual(sign_at((), (1, 2)), 0)

    def test_roots_are_counted_once_each(self):
        for roots in ((), (0,), (1, 1, 1), (1, 2, 3), (-1, 0, 0, 5), (Fraction(1, 2), Fraction(1, 3), Fraction(1, 3)), (7,) * 4):
            polynomial = with_roots(*roots)
            for side in (1, -1, 6):
                rows = sturm_rows(tuple([side * number for number in polynomial]))
                self.assertEqual(roots_within(rows, WHOLE), len(set(roots)))
                for low in range(-3, 9):
                    for high in range(low, 9):
                        inside = [root for root in set(roots) if low < root <= high]
                        self.assertEqual(roots_within(rows, ((low, 1), (high, 1))), len(inside))
        # x * x - 2, x * x + 1 and their product squared
        self.assertEqual(roots_within(sturm_rows((-2, 0, 1)), WHOLE), 2)
        self.assertEqual(roots_within(sturm_rows((1, 0, 1)), WHOLE), 0)
        both = polynomial_product((-2, 0, 1), (1, 0, 1))
        self.assertEqual(roots_within(sturm_rows(polynomial_product(both, both)), WHOLE), 2)

    def test_stretches_hold_one_root_each(self):
        draw = Draw(3)
        for _ in range(40):
            roots = [Fraction(*draw.fraction(20)) for _ in range(draw.chance.randint(0, 4))]
            rows = sturm_rows(polynomial_product(with_roots(*roots), (-2, 0, 1)))
            found = stretches_of_roots(rows, ((0, 1), (30, 1)))
            inside = sorted([root for root in set(roots) if 0 < root <= 30] + [2 ** 0.5])
            self.assertEqual(len(found), len(inside))
            for (low, high), root in zip(sorted(found, key=lambda stretch: Fraction(*stretch[0])), inside):
                self.assertTrue(Fraction(*low) < root <= Fraction(*high))

    def test_common_divisors(self):
        told = common_divisor(with_roots(1, 2, 3), with_roots(2, 3, 5))
        self.assertEqual(len(told), 3)
        self.assertEqual([worth_at(told, 2), worth_at(told, 3)], [0, 0])
        self.assertEqual(len(common_divisor(with_roots(1, 2), with_roots(3, 4))), 1)
        self.assertEqual(len(common_divisor((-2, 0, 1), polynomial_product((-2, 0, 1), (1, 1)))), 3)

    def test_signs_at_roots(self):
        # At root 2: polynomials that are 0 there, and some that are close to 0 there.
        rows = sturm_rows((-2, 0, 1))
        stretch = ((0, 1), (5, 1))
        for polynomial, want in (
            ((), 0), ((-2, 0, 1), 0), ((2, 0, -1), 0), ((3,), 1), ((-3,), -1), ((0, 1), 1), ((-1, 1), 1), ((-2, 1), -1),
            ((-1414213562, 10 ** 9), 1), ((-1414213563, 10 ** 9), -1), ((1414213563, -10 ** 9), 1),
            (polynomial_product((-2, 0, 1), (-7, 1)), 0), (polynomial_product((-2, 0, 1), (-2, 0, 1)), 0),
            (polynomial_product((-1, 1), (-2, 1)), -1), (polynomial_product((-3, 0, 1), (-1, 1)), -1),
            (polynomial_sum(polynomial_product((-2, 0, 1), (5, 10 ** 20)), (1,)), 1), ((0, -2, 0, 1), 0),
            (with_roots(Fraction(7, 5), Fraction(3, 2)), -1), (with_roots(Fraction(3, 2), Fraction(3, 2)), 1),
        ):
            self.assertEqual(sign_at_root(rows, stretch, polynomial), want, polynomial)

    def test_signs_at_roots_that_are_fractions(self):
        draw = Draw(4)
        for _ in range(40):
            root = abs(Fraction(*draw.fraction(6))) + Fraction(1, 7)
            rows = sturm_rows(polynomial_product(with_roots(root), (1, 0, 1)))
            (stretch,) = stretches_of_roots(rows, ((0, 1), (50, 1)))
            for _ in range(5):
                polynomial = trimmed(draw.row(4, 5))
                self.assertEqual(sign_at_root(rows, stretch, polynomial), sign(worth_at(polynomial, root)))
            self.assertEqual(sign_at_root(rows, stretch, with_roots(root, 3)), 0)
            self.assertEqual(sign_at(with_roots(root), pair_of(root)), 0)


if __name__ == "__main__":
    unittest.main()
