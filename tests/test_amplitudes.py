"""Points [15] and [16] and platelights/amplitudes.py: amplitudes, matrices, and pure tables."""

import unittest
from math import gcd

from platelights.amplitudes import amplitude_of, is_pure_table, led_amplitude, light_of_amplitude, matrix_of
from platelights.amplitudes import matrix_product, table_of_matrix
from platelights.errors import InvalidAmplitude, InvalidLight, InvalidMatrix, InvalidTable
from platelights.lights import is_light, kind_of, times
from platelights.plates import table_of_plate, table_of_stack
from platelights.tables import led_light, table_product, table_sum, table_times
from tests import reckon
from tests.cases import Argument, Case
from tests.reckon import complex_matrix, complex_of, rows_of_matrix, table_of_numbers
from tests.values import ALONG, BIG, EYE, GLASS, NOUGHT, UNIT, WRONG_AMPLITUDES, WRONG_LIGHTS, WRONG_MATRICES
from tests.values import WRONG_TABLES, Draw

O, ONE = (0, 0), (1, 0)
NO_MATRIX = ((O, O), (O, O))
QUARTER = ((ONE, O), (O, (0, 1)))


def gaussian_of(number):
    """The Gaussian that a complex number is."""
    return (int(number.real), int(number.imag))


def some_matrices(seed, many):
    draw = Draw(seed)
    return [EYE, QUARTER, ((ONE, O), (O, O)), ((O, ONE), (O, O))] + [draw.matrix() for _ in range(many)]


def some_amplitudes(seed, many):
    draw = Draw(seed)
    return [(ONE, O), (O, ONE), (ONE, (0, 1)), ((0, -1), (2, 0)), (O, (-3, 4))] + [draw.amplitude() for _ in range(many)]


class AmplitudesTest(Case):

    def test_examples(self):
        self.gives((2, 0, 0, 2, 1), light_of_amplitude, (ONE, (0, 1)))
        self.gives(((ONE, (0, 1)), (1, 2)), amplitude_of, (1, 0, 0, 1, 1))
        self.gives(((O, ONE), (1, 2)), amplitude_of, (1, -1, 0, 0, 2))
        self.gives(None, amplitude_of, (2, 1, 0, 0, 1))
        self.gives((((1, 0, 0, 0), (0, 1, 0, 0), (0, 0, 0, -1), (0, 0, 1, 0)), 1), table_of_matrix, QUARTER)
        self.gives(True, is_pure_table, table_of_matrix(QUARTER))
        self.gives(False, is_pure_table, (((1, 0, 0, 0),) + ((0, 0, 0, 0),) * 3, 1))

    def test_lights_of_amplitudes(self):
        for amplitude in some_amplitudes(1, 60):
            x, y = complex_of(amplitude[0]), complex_of(amplitude[1])
            mixed = 2 * x.conjugate() * y
            i, q = (x * x.conjugate()).real + (y * y.conjugate()).real, (x * x.conjugate() - y * y.conjugate()).real
            told = light_of_amplitude(amplitude)
            self.gives((int(i), int(q), int(mixed.real), int(mixed.imag), 1), light_of_amplitude, amplitude)
            self.assertTrue(is_light(told))
            self.assertIsNotNone(kind_of(told))
        for amplitude, light in (
            ((ONE, O), (1, 1, 0, 0, 1)), ((O, (0, -1)), (1, -1, 0, 0, 1)), ((ONE, ONE), (2, 0, 2, 0, 1)),
            (((0, 1), ONE), (2, 0, 0, -2, 1)), ((ONE, (0, -1)), (2, 0, 0, -2, 1)), (((2, 0), (2, 0)), (8, 0, 8, 0, 1)),
            (((BIG, 0), (0, 1)), (BIG * BIG + 1, BIG * BIG - 1, 0, 2 * BIG, 1)), (((1, 2), (3, 4)), (30, -20, 22, -4, 1)),
        ):
            self.gives(light, light_of_amplitude, amplitude)

    def test_one_kind_exactly_if_the_products_crosswise_are_equal(self):
        amplitudes = some_amplitudes(2, 12)
        amplitudes += [tuple([gaussian_of((1 + 2j) * complex_of(one)) for one in pair]) for pair in amplitudes]
        for one in amplitudes:
            for two in amplitudes:
                crosswise = complex_of(one[0]) * complex_of(two[1]) == complex_of(one[1]) * complex_of(two[0])
                alike = kind_of(light_of_amplitude(one)) == kind_of(light_of_amplitude(two))
                self.assertEqual(alike, crosswise)

    def test_amplitudes_of_lights(self):
        draw = Draw(3)
        fixed = [(1, 1, 0, 0, 1), (1, 0, 0, -1, 7), (3, -3, 0, 0, 2), (3, -2, 2, 1, 5), (BIG, 0, 0, -BIG, 3), (5, -4, 3, 0, 1)]
        for light in fixed + [draw.pure() for _ in range(80)]:
            told = amplitude_of(light)
            self.gives(told, amplitude_of, light)
            (x, y), part = told
            self.assertEqual(gcd(*x, *y), 1)
            self.assertGreater(part[0], 0)
            self.assertEqual(gcd(*part), 1)
            self.assertEqual(times(light_of_amplitude((x, y)), part), light)
            # It is the one of point [15]: its first number is from 0 on, without a second part.
            i, q, u, v, _ = light
            if i + q == 0:
                self.assertEqual((x, y), (O, ONE))
            else:
                self.assertEqual(x[1], 0)
                self.assertGreater(x[0], 0)
                self.assertEqual((x[0] * u, x[0] * v), (y[0] * (i + q), y[1] * (i + q)))

    def test_no_amplitudes_of_lights_that_are_not_pure(self):
        draw = Draw(4)
        for light in [(0, 0, 0, 0, 1), (1, 0, 0, 0, 1), (2, 1, 1, 1, 3)] + [draw.light() for _ in range(30)]:
            if kind_of(light) is None:
                self.gives(None, amplitude_of, light)

    def test_led_amplitudes(self):
        for matrix in some_matrices(5, 25):
            for amplitude in some_amplitudes(6, 8):
                x, y = complex_of(amplitude[0]), complex_of(amplitude[1])
                told = tuple([gaussian_of(row[0] * x + row[1] * y) for row in complex_matrix(matrix)])
                if told == (O, O):
                    self.gives(None, led_amplitude, matrix, amplitude)
                    self.assertEqual(led_light(table_of_matrix(matrix), light_of_amplitude(amplitude)), (0, 0, 0, 0, 1))
                else:
                    self.gives(told, led_amplitude, matrix, amplitude)
                    # The table of the matrix leads the light to the light of the led amplitude.
                    led = led_light(table_of_matrix(matrix), light_of_amplitude(amplitude))
                    self.assertEqual(led, light_of_amplitude(told))
        self.gives(None, led_amplitude, NO_MATRIX, (ONE, O))
        self.gives(None, led_amplitude, ((O, ONE), (O, O)), (ONE, O))
        self.gives(((2, 4), (0, 0)), led_amplitude, (((2, 4), O), (O, O)), (ONE, ONE))

    def test_matrix_products(self):
        matrices = some_matrices(7, 12) + [NO_MATRIX]
        unlike = 0
        for matrix in matrices:
            for other in matrices:
                whole = reckon.multiplied(complex_matrix(matrix), complex_matrix(other))
                told = tuple([tuple([gaussian_of(number) for number in row]) for row in whole])
                self.gives(told, matrix_product, matrix, other)
                unlike += told != matrix_product(other, matrix)
                tables = table_product(table_of_matrix(matrix), table_of_matrix(other))
                self.assertEqual(table_of_matrix(told), tables)
        self.assertGreater(unlike, 100)

    def test_tables_of_matrices(self):
        for matrix in some_matrices(8, 60):
            self.gives(table_of_numbers(rows_of_matrix(matrix)), table_of_matrix, matrix)
        self.gives(NOUGHT, table_of_matrix, NO_MATRIX)
        self.gives(UNIT, table_of_matrix, EYE)
        self.gives(table_of_plate(ALONG), table_of_matrix, ((ONE, O), (O, O)))
        self.gives(table_of_plate(("magnet", (1, 0))), table_of_matrix, ((O, (-1, 0)), (ONE, O)))
        self.gives(table_of_plate(("turner", (1, 1, 0, 0))), table_of_matrix, QUARTER)

    def test_two_matrices_with_one_table(self):
        for matrix in some_matrices(9, 20):
            for unit in (1j, -1, -1j):
                turned = tuple([tuple([gaussian_of(unit * complex_of(one)) for one in row]) for row in matrix])
                self.assertEqual(table_of_matrix(turned), table_of_matrix(matrix))
            double = tuple([tuple([(2 * x, 2 * y) for x, y in row]) for row in matrix])
            self.assertEqual(table_of_matrix(double), table_times(table_of_matrix(matrix), (4, 1)))

    def test_matrices_of_pure_tables(self):
        draw = Draw(10)
        for matrix in some_matrices(11, 50):
            for part in ((1, 1), (1, 7), (BIG, 3)):
                if matrix != NO_MATRIX:
                    self.check_pure(table_times(table_of_matrix(matrix), part))
        for plate in (ALONG, ("partial", (2, 1, 2, 3), (1, 2), (1, 3)), ("magnet", (1, 2)), ("grey", (1, 3))):
            self.check_pure(table_of_plate(plate))
            self.check_pure(table_of_plate(("set", (1, 2), plate)))
        for _ in range(25):
            stack = tuple([draw.bare_plate() for _ in range(4)])
            if all(plate[0] not in ("glass", "dull") for plate in stack) and table_of_stack(stack) != NOUGHT:
                self.check_pure(table_of_stack(stack))

    def check_pure(self, table):
        self.gives(True, is_pure_table, table)
        told = matrix_of(table)
        self.gives(told, matrix_of, table)
        matrix, part = told
        self.assertGreater(part[0], 0)
        self.assertEqual(gcd(*part), 1)
        self.assertGreater(part[1], 0)
        self.assertEqual(table_times(table_of_matrix(matrix), part), table)

    def test_tables_that_are_not_pure(self):
        draw = Draw(12)
        minus = table_times(UNIT, (-1, 1))
        for table in (NOUGHT, GLASS, minus, table_of_plate(("dull", (1, 2))), table_product(GLASS, table_of_matrix(QUARTER))):
            self.gives(False, is_pure_table, table)
            self.gives(None, matrix_of, table)
        for _ in range(60):
            one, two = draw.matrix(), draw.matrix()
            crosswise = [
                (complex_of(one[a][b]) * complex_of(two[c][d]) - complex_of(one[c][d]) * complex_of(two[a][b]))
                for a in (0, 1) for b in (0, 1) for c in (0, 1) for d in (0, 1)
            ]
            table = table_sum(table_of_matrix(one), table_of_matrix(two))
            # The sum of two is pure exactly if one matrix is a multiple of the other one.
            self.gives(not any(crosswise), is_pure_table, table)
            self.gives(False, is_pure_table, table_sum(UNIT, table_times(table_of_matrix(QUARTER), (1, BIG))))
            self.gives(False, is_pure_table, draw.table())

    def test_wrong_arguments(self):
        amplitude = Argument("amplitude", (ONE, (0, 1)), InvalidAmplitude, WRONG_AMPLITUDES)
        matrix = Argument("matrix", QUARTER, InvalidMatrix, WRONG_MATRICES)
        other = Argument("other", EYE, InvalidMatrix, WRONG_MATRICES)
        self.checks_arguments(light_of_amplitude, amplitude)
        self.checks_arguments(amplitude_of, Argument("light", (1, 0, 0, 1, 1), InvalidLight, WRONG_LIGHTS))
        self.checks_arguments(led_amplitude, matrix, amplitude)
        self.checks_arguments(matrix_product, matrix, other)
        self.checks_arguments(table_of_matrix, matrix)
        for function in (is_pure_table, matrix_of):
            self.checks_arguments(function, Argument("table", UNIT, InvalidTable, WRONG_TABLES))


if __name__ == "__main__":
    unittest.main()
