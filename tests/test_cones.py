"""The helpers of points [18] and [19]: hermitian forms, and quadratic forms at lights."""

import unittest
from fractions import Fraction

from platelights.cones import is_never_below, light_below
from platelights.forms import form_weight, row_below, squares_of
from platelights.lights import is_light, lens, pure_light
from tests.cases import Case
from tests.values import Draw

BIG = 10 ** 30


def value_at(form, row):
    """What a form makes of a row."""
    return sum(row[at] * form[at][place] * row[place] for at in range(4) for place in range(4))


def diagonal(*numbers):
    return [[number if at == place else 0 for place in range(4)] for at, number in enumerate(numbers)]


def symmetric(draw, most):
    rows = [list(draw.row(4, most)) for _ in range(4)]
    return [[rows[min(at, place)][max(at, place)] for place in range(4)] for at in range(4)]


def added(form, other):
    return [[one + two for one, two in zip(row, beside)] for row, beside in zip(form, other)]


def weighed(form, row):
    """What a hermitian form makes of a row of Gaussians."""
    whole = sum(
        complex(row[at][0], -row[at][1]) * complex(*form[at][place]) * complex(*row[place])
        for at in range(4) for place in range(4))
    return whole.real


class HermitianFormsTest(Case):

    def hermitian(self, draw, most):
        rows = [[draw.row(2, most) for _ in range(4)] for _ in range(4)]
        for at in range(4):
            rows[at][at] = (rows[at][at][0], 0)
            for place in range(at):
                rows[at][place] = (rows[place][at][0], -rows[place][at][1])
        return rows

    def test_weights_and_squares(self):
        draw = Draw(1)
        for _ in range(80):
            form = self.hermitian(draw, 3)
            row = tuple([draw.row(2, 3) for _ in range(4)])
            self.assertEqual(form_weight(form, row), weighed(form, row))
            steps, left = squares_of(form)
            self.assertTrue(all(left[at][at][0] <= 0 for at in range(4)))
            self.assertEqual(len({index for index, _, _ in steps}), len(steps))
            for _, _, part in steps:
                self.assertGreater(part[0], 0)

    def test_a_row_below_is_found_unless_the_form_is_a_sum_of_squares(self):
        draw = Draw(2)
        seen = {True: 0, False: 0}
        for number in range(150):
            form = self.hermitian(draw, 3)
            for at in range(4):
                form[at][at] = (form[at][at][0] + number % 10, 0)
            row = row_below(form)
            seen[row is None] += 1
            if row is not None:
                self.assertLess(weighed(form, row), 0)
                continue
            steps, left = squares_of(form)
            self.assertTrue(all(entry == (0, 0) for line in left for entry in line))
            for at in range(4):
                for place in range(4):
                    whole = [Fraction(0), Fraction(0)]
                    for _, column, part in steps:
                        square = complex(*column[at]) * complex(*column[place]).conjugate()
                        whole[0] += Fraction(*part) * int(square.real)
                        whole[1] += Fraction(*part) * int(square.imag)
                    self.assertEqual(tuple(whole), form[at][place])
        self.assertGreater(min(seen.values()), 10)


class LightFormsTest(Case):

    def check_kept(self, form):
        self.assertIs(is_never_below(form), True)
        self.assertIsNone(light_below(form))
        for x in range(-3, 4):
            for y in range(-3, 4):
                for w in (1, 2):
                    light = pure_light(lens(x, y, w))
                    for more in (0, 1, 10):
                        row = (light[0] + more,) + light[1:4]
                        self.assertGreaterEqual(value_at(form, row), 0)
        self.assertGreaterEqual(value_at(form, (1, 0, 0, 0)), 0)

    def check_below(self, form):
        self.assertIs(is_never_below(form), False)
        light = light_below(form)
        self.assertTrue(is_light(light))
        self.assertLess(value_at(form, light[:4]), 0)

    def test_sums_of_squares_and_of_the_product(self):
        draw = Draw(3)
        for _ in range(40):
            squares = diagonal(0, 0, 0, 0)
            for _ in range(draw.chance.randint(0, 4)):
                row = draw.row(4, 3)
                squares = added(squares, [[one * two for two in row] for one in row])
            mu = draw.chance.randint(0, 5)
            self.check_kept(added(squares, diagonal(mu, -mu, -mu, -mu)))

    def test_forms_at_the_edge(self):
        for scale in (1, 1000, BIG):
            self.check_kept(diagonal(scale, -scale, -scale, -scale))
            self.check_below(diagonal(scale, -scale - 1, -scale, -scale))
            self.check_below(diagonal(scale - 1, -scale, 0, 0))
            self.check_kept(diagonal(0, 0, 0, 0))
            self.check_kept(diagonal(0, scale, 0, 0))
            self.check_below(diagonal(0, 0, -1, scale))
            self.check_below(diagonal(-1, scale, scale, scale))
            self.check_below(diagonal(-scale, scale, scale, scale))

    def test_a_form_below_0_along_one_pure_light_alone(self):
        # I I + Q Q and the like less a multiple of the square of I + Q: all sums of minors at mu = 0 are above 0 but the
        # determinant.
        self.check_below([[49, -51, 0, 0], [-51, 49, 0, 0], [0, 0, 100, 0], [0, 0, 0, 100]])
        self.check_kept([[50, -50, 0, 0], [-50, 50, 0, 0], [0, 0, 100, 0], [0, 0, 0, 100]])
        self.check_below([[BIG - 1, -BIG - 1, 0, 0], [-BIG - 1, BIG - 1, 0, 0], [0, 0, BIG, 0], [0, 0, 0, BIG]])

    def test_forms_below_0_off_the_cone_alone(self):
        # Below 0 at rows that are no lights, and at none that is one.
        self.check_kept(diagonal(5, -3, -4, -5))
        self.check_kept(diagonal(5, -5, 7, 0))
        self.check_below(diagonal(5, -3, -4, -6))
        self.check_below(diagonal(1, -4, 0, 0))

    def test_products_of_two_looks(self):
        # Twice the product of two levels is not below 0 where both rows are lights.
        for one, two, kept in (
            ((1, 1, 0, 0), (1, -1, 0, 0), True), ((1, 0, 0, 0), (2, 1, 1, 0), True), ((3, 2, 2, 1), (5, 0, 3, 4), True),
            ((1, 0, 0, 0), (1, 1, 1, 0), False), ((1, 0, 0, 0), (-1, 0, 0, 0), False), ((0, 1, 0, 0), (0, 1, 0, 0), True),
            ((BIG, 0, 0, BIG), (1, 0, 1, 0), True), ((BIG, 0, 0, BIG + 1), (1, 0, 1, 0), False),
        ):
            form = [[x * b + y * a for a, b in zip(one, two)] for x, y in zip(one, two)]
            (self.check_kept if kept else self.check_below)(form)

    def test_forms_drawn_by_chance(self):
        draw = Draw(4)
        seen = {True: 0, False: 0}
        for number in range(400):
            form = symmetric(draw, 2)
            form[0][0] += number % 7
            kept = is_never_below(form)
            seen[kept] += 1
            (self.check_kept if kept else self.check_below)(form)
        self.assertGreater(min(seen.values()), 20)

    def test_lights_are_told_with_few_figures(self):
        draw = Draw(9)
        for swing in (1, 2, 3):
            # Well below 0 at the pure light of this swing, but told by numbers of many figures.
            wide = diagonal(*[BIG if at == 0 else -2 * BIG if at == swing else 0 for at in range(4)])
            for _ in range(20):
                form = added(wide, symmetric(draw, 10 ** 20))
                self.check_below(form)
                self.assertLess(max([abs(number) for number in light_below(form)]), 100)


if __name__ == "__main__":
    unittest.main()
