"""Points [17] to [19] and platelights/keepers.py: companions, made tables, and tables that keep lights."""

import unittest
from fractions import Fraction
from math import gcd

from platelights.amplitudes import is_pure_table, table_of_matrix
from platelights.errors import InvalidRow, InvalidTable
from platelights.keepers import barring_row, companion, is_made, keeps_lights, lost_light, made_rank, parts_of, weight
from platelights.lights import is_light, lens, light_of, pure_light
from platelights.plates import table_of_plate, table_of_stack
from platelights.tables import led_numbers, table_of, table_product, table_sum, table_times
from tests import reckon
from tests.cases import Argument, Case
from tests.reckon import companion_entry, numbers_of, pair_of, rows_of, sum_of_parts, table_of_numbers, weight_of
from tests.values import ALONG, BIG, EYE, GLASS, NOUGHT, UNIT, UPRIGHT, WRONG_GAUSSIAN_ROWS, WRONG_TABLES, Draw

O, ONE = (0, 0), (1, 0)
EMPTY = (0, 0, 0, 0)
# This one leads all light to plain light: it is the mean of four turners.
LEVEL = (((1, 0, 0, 0), EMPTY, EMPTY, EMPTY), 1)
# A row with two of its numbers upright on one another, where the glass has its weight below 0.
SINGLET = (O, ONE, (-1, 0), O)


def made_table(draw, many, most=2):
    """A sum of tables of matrices."""
    whole = NOUGHT
    for _ in range(many):
        whole = table_sum(whole, table_times(table_of_matrix(draw.matrix(most)), draw.chance.choice(((1, 1), (2, 3), (4, 3)))))
    return whole


def diagonal(i, q, u, v, below=1):
    """The table with four numbers on its diagonal."""
    return table_of(((i, 0, 0, 0), (0, q, 0, 0), (0, 0, u, 0), (0, 0, 0, v)), below)


def bordered(m, n, side=1, below=1):
    """A table of which mu is the square of m + n times the root of 2 alone, if side over below is 1."""
    return table_of((
        (below * (2 * m + 3 * n), -below * n, 0, 0), (below * n, below * (2 * m - 3 * n), 0, 0),
        (0, 0, 2 * side * (m + n), 2 * side * n), (0, 0, 2 * side * n, 2 * side * (m - n)),
    ), 2 * below)


def determinant_of(matrix):
    """The determinant of a matrix of Gaussians, as a complex number."""
    (x, y), (z, w) = reckon.complex_matrix(matrix)
    return x * w - y * z


class CompanionTest(Case):

    def test_example(self):
        want = ((
            ((2, 0), O, O, O), (O, O, (2, 0), O), (O, (2, 0), O, O), (O, O, O, (2, 0))), 1)
        self.gives(want, companion, GLASS)
        self.gives((-4, 1), weight, GLASS, SINGLET)

    def test_companions(self):
        draw = Draw(1)
        for table in [UNIT, NOUGHT, GLASS, LEVEL] + [draw.table() for _ in range(40)]:
            rows, below = table
            told = tuple([tuple([companion_entry(rows, at, place) for place in range(4)]) for at in range(4)])
            self.gives((told, below), companion, table)
            for at in range(4):
                for place in range(4):
                    x, y = told[at][place]
                    self.assertEqual(told[place][at], (x, -y))

    def test_a_companion_is_not_reduced(self):
        form, below = companion(diagonal(1, 1, 0, 0, 2))
        self.assertEqual(below, 2)
        self.assertEqual(form[0][0], (2, 0))

    def test_companions_of_matrices(self):
        draw = Draw(2)
        for _ in range(30):
            matrix = draw.matrix()
            numbers = [reckon.complex_of(one) for row in matrix for one in row]
            form, below = companion(table_of_matrix(matrix))
            for at in range(4):
                for place in range(4):
                    want = 2 * below * numbers[at] * numbers[place].conjugate()
                    self.assertEqual(complex(*form[at][place]), want)

    def test_weights(self):
        draw = Draw(3)
        for table in [UNIT, NOUGHT, GLASS, LEVEL] + [draw.table() for _ in range(25)]:
            for _ in range(6):
                row = tuple([draw.row(2, 3) for _ in range(4)])
                self.gives(pair_of(weight_of(rows_of(table), row)), weight, table, row)
            self.gives((0, 1), weight, table, (O, O, O, O))
        self.gives((BIG * BIG, 7), weight, (LEVEL[0], 7), ((BIG, 0), O, O, O))

    def test_the_glass_has_a_weight_below_0(self):
        self.assertEqual(weight_of(rows_of(GLASS), SINGLET), -4)
        self.gives((4, 1), weight, GLASS, (O, ONE, ONE, O))
        self.gives((4, 1), weight, GLASS, (O, (0, 1), (0, 1), O))
        self.gives((0, 1), weight, GLASS, (O, ONE, (0, 1), O))

    def test_wrong_arguments(self):
        self.checks_arguments(companion, Argument("table", GLASS, InvalidTable, WRONG_TABLES))
        self.checks_arguments(
            weight,
            Argument("table", GLASS, InvalidTable, WRONG_TABLES),
            Argument("row", SINGLET, InvalidRow, WRONG_GAUSSIAN_ROWS),
        )
        for function in (is_made, made_rank, parts_of, barring_row, keeps_lights, lost_light):
            self.checks_arguments(function, Argument("table", LEVEL, InvalidTable, WRONG_TABLES))


class MadeTest(Case):

    def check_made(self, table, rank=None):
        """Check that a table is made, with parts that add up to it, and that it keeps lights."""
        self.gives(True, is_made, table)
        self.gives(None, barring_row, table)
        parts = parts_of(table)
        self.gives(parts, parts_of, table)
        self.gives(len(parts), made_rank, table)
        if rank is not None:
            self.assertEqual(len(parts), rank)
        whole = NOUGHT
        for matrix, part in parts:
            self.assertGreater(part[0], 0)
            self.assertGreater(part[1], 0)
            self.assertEqual(gcd(*part), 1)
            whole = table_sum(whole, table_times(table_of_matrix(matrix), part))
        self.assertEqual(whole, table)
        self.assertEqual(is_pure_table(table), len(parts) == 1)
        self.gives(True, keeps_lights, table)
        self.gives(None, lost_light, table)

    def check_not_made(self, table):
        """Check that a table is not made, with a row of which the weight is reckoned here."""
        self.gives(False, is_made, table)
        self.gives(None, made_rank, table)
        self.gives(None, parts_of, table)
        row = barring_row(table)
        self.gives(row, barring_row, table)
        self.assertEqual((len(row), {len(one) for one in row}), (4, {2}))
        self.assertLess(weight_of(rows_of(table), row), 0)
        self.assertLess(weight(table, row)[0], 0)

    def test_examples(self):
        self.gives(False, is_made, GLASS)
        self.gives(True, keeps_lights, GLASS)
        self.gives(None, made_rank, GLASS)
        self.gives(4, made_rank, LEVEL)
        self.gives(False, keeps_lights, (((1, 0, 0, 0), (0, 2, 0, 0), EMPTY, EMPTY), 1))

    def test_tables_of_each_rank(self):
        self.gives((), parts_of, NOUGHT)
        self.check_made(NOUGHT, 0)
        self.check_made(UNIT, 1)
        self.check_made(table_of_plate(ALONG), 1)
        self.check_made(table_sum(table_of_plate(ALONG), table_of_plate(UPRIGHT)), 2)
        self.check_made(diagonal(1, 1, 0, 0), 2)
        self.check_made(diagonal(3, 1, 1, -1), 3)
        self.check_made(diagonal(1, 0, 0, 0), 4)
        self.check_made(table_of_plate(("dull", (1, 2))), 4)
        self.check_made(table_of_plate(("dull", (0, 1))), 4)
        self.check_made(table_of_plate(("dull", (1, 1))), 1)

    def test_sums_of_tables_of_matrices(self):
        draw = Draw(4)
        for _ in range(40):
            many = draw.chance.randint(1, 6)
            table = made_table(draw, many)
            self.check_made(table)
            self.assertLessEqual(made_rank(table), min(many, 4))
            self.assertEqual(made_rank(table), rank_of_companion(table))
            self.check_made(table_product(table, made_table(draw, 2)))

    def test_the_parts_are_as_few_as_the_rank(self):
        draw = Draw(5)
        for _ in range(20):
            matrix, other = draw.matrix(), draw.matrix()
            double = tuple([tuple([(3 * x, 3 * y) for x, y in row]) for row in matrix])
            table = table_sum(table_of_matrix(matrix), table_of_matrix(double))
            self.check_made(table, 0 if table == NOUGHT else 1)
            self.check_made(table_sum(table, table_of_matrix(other)), rank_of_companion(
                table_sum(table_of_matrix(matrix), table_of_matrix(other))))

    def test_plates_and_stacks(self):
        draw = Draw(6)
        for _ in range(60):
            plate = draw.plate()
            self.gives("glass" not in (plate[0], plate[-1][0]), is_made, table_of_plate(plate))
        glass, turned = ("glass",), ("set", (1, 2), ("glass",))
        for _ in range(25):
            stack = tuple([draw.bare_plate() for _ in range(3)])
            stack = tuple([plate for plate in stack if plate != glass])
            self.check_made(table_of_stack(stack))
            self.check_made(table_of_stack((glass,) + stack + (turned,)))
            # A glass between made tables keeps lights, whether the whole is made or not.
            table = table_of_stack(stack + (glass,) + stack)
            self.gives(True, keeps_lights, table)
            self.gives(None, lost_light, table)
        for stack in ((glass,), (turned,), (("magnet", (1, 2)), glass), (glass, turned, glass), (glass, ("grey", (1, 9)))):
            self.check_not_made(table_of_stack(stack))
        self.check_made(table_of_stack((glass, ("polariser", (2, 1, 2, 3)))))

    def test_tables_at_the_edge_of_being_made(self):
        # diag(1, q, u, v) is made exactly if 1 + q >= |u + v| and 1 - q >= |u - v|.
        for i, q, u, v in ((3, 1, 1, -1), (3, 3, 2, 2), (3, -3, 2, -2), (3, 0, 0, 3), (3, -1, 1, 1), (5, 1, 5, 1)):
            made = i + q >= abs(u + v) and i - q >= abs(u - v)
            self.assertTrue(made)
            self.check_made(diagonal(i, q, u, v))
            for below in (10, BIG):
                self.check_made(diagonal(i * below + 1, q * below, u * below, v * below, below))
                if abs(u + v) == i + q or abs(u - v) == i - q:
                    self.check_not_made(diagonal(i * below - 1, q * below, u * below, v * below, below))

    def test_made_tables_less_a_little(self):
        draw = Draw(7)
        for _ in range(30):
            table = made_table(draw, draw.chance.randint(1, 3))
            if made_rank(table) < 4:
                for little in ((-1, 7), (-1, BIG)):
                    self.check_not_made(table_sum(table, table_times(LEVEL, little)))
            self.check_made(table_sum(table, table_times(LEVEL, (1, BIG))), 4)

    def test_tables_that_are_not_made(self):
        draw = Draw(8)
        self.check_not_made(diagonal(-1, 0, 0, 0))
        self.check_not_made(table_times(UNIT, (-1, 1)))
        for at in range(4):
            for place in range(4):
                rows = [[0] * 4 for _ in range(4)]
                rows[at][place] = 1
                table = (tuple([tuple(row) for row in rows]), 1)
                if (at, place) == (0, 0):
                    self.check_made(table, 4)
                else:
                    self.check_not_made(table)
        for _ in range(80):
            table = draw.table()
            if least_weights_are_found(table):
                self.check_not_made(table)
            elif is_made(table):
                self.check_made(table)
            else:
                self.check_not_made(table)


def least_weights_are_found(table):
    """Whether one of the plainest rows has a weight below 0."""
    units = [tuple([one if at == place else O for at in range(4)]) for place in range(4) for one in (ONE,)]
    pairs = [
        tuple([ONE if at == first else other if at == second else O for at in range(4)])
        for first in range(4) for second in range(4) if first != second for other in (ONE, (-1, 0), (0, 1), (0, -1))
    ]
    return any(weight_of(rows_of(table), row) < 0 for row in units + pairs)


def rank_of_companion(table):
    """The rank of the companion, by steps of Gauss over complex fractions told as pairs."""
    rows = [[(Fraction(x), Fraction(y)) for x, y in row] for row in companion(table)[0]]
    rank = 0
    for at in range(4):
        pivots = [row for row in rows[rank:] if row[at] != (0, 0)]
        if pivots:
            pivot = pivots[0]
            rest = [row for row in rows[rank:] if row is not pivot]
            rows = rows[:rank] + [pivot] + [less(row, pivot, at) for row in rest]
            rank += 1
    return rank


def less(row, pivot, at):
    """A row less such a multiple of the pivot that its number at an index is 0."""
    (a, b), (c, d) = row[at], pivot[at]
    size = c * c + d * d
    x, y = (a * c + b * d) / size, (b * c - a * d) / size
    return [(p - (x * r - y * s), q - (x * s + y * r)) for (p, q), (r, s) in zip(row, pivot)]


class KeepersTest(Case):

    def check_keeps(self, table):
        """Check that a table keeps lights, the told ones and many others."""
        self.gives(True, keeps_lights, table)
        self.gives(None, lost_light, table)
        rows = rows_of(table)
        for x in range(-4, 5):
            for y in range(-4, 5):
                for kind in (lens(x, y, 3), lens(x, y, 1)):
                    led = reckon.led(rows, numbers_of(pure_light(kind)))
                    self.assertTrue(reckon.is_light_row(led), (table, kind))

    def check_loses(self, table):
        """Check that a table does not keep lights, by the light that is told."""
        self.gives(False, keeps_lights, table)
        light = lost_light(table)
        self.gives(light, lost_light, table)
        self.assertTrue(is_light(light))
        self.assertFalse(is_light(led_numbers(table, light)))
        self.assertFalse(reckon.is_light_row(reckon.led(rows_of(table), numbers_of(light))))

    def test_first_rows(self):
        for row in (
            (-1, 0, 0, 0), (0, 1, 0, 0), (0, 0, 0, -1), (1, 2, 0, 0), (1, 1, 1, 0), (-5, 3, 4, 0), (-1, 1, 0, 0),
            (7, 6, 3, 3), (-7, 6, 3, 2), (BIG, BIG, 1, 0), (BIG, 0, 0, -BIG - 1), (BIG * BIG - 1, 0, BIG, BIG * BIG - 1),
        ):
            self.check_loses(((row, EMPTY, EMPTY, EMPTY), 1))
        for row in ((1, 0, 0, 0), (1, 1, 0, 0), (7, 6, 3, -2), (BIG, 0, 0, -BIG), (5, 0, 3, 4), EMPTY):
            table = table_of((row, EMPTY, EMPTY, EMPTY), 1)
            self.check_keeps(table)

    def test_rows_that_pull_away_from_a_first_row_that_is_a_light(self):
        for rows, keeps in (
            (((1, 0, 0, 0), (1, 0, 0, 0), EMPTY, EMPTY), True), (((1, 0, 0, 0), (0, 1, 0, 0), EMPTY, EMPTY), True),
            (((1, 0, 0, 0), (1, 1, 0, 0), EMPTY, EMPTY), False), (((1, 0, 0, 0), (2, 0, 0, 0), EMPTY, EMPTY), False),
            (((2, 0, 0, 0), (1, 1, 0, 0), EMPTY, EMPTY), True), (((2, 0, 0, 0), (1, 1, 0, 0), (0, 0, 1, 0), EMPTY), True),
            (((2, 1, 0, 0), (1, 2, 0, 0), EMPTY, EMPTY), True), (((2, 1, 0, 0), (1, 2, 0, 0), (0, 0, 2, 0), EMPTY), False),
            ((EMPTY, (0, 0, 0, 1), EMPTY, EMPTY), False), ((EMPTY, EMPTY, (1, 0, 0, 0), EMPTY), False),
            (((5, 0, 0, 0), (3, 0, 0, 0), (4, 0, 0, 0), EMPTY), True), (((1, 1, 0, 0), EMPTY, EMPTY, (1, 1, 0, 0)), True),
            (((1, 1, 0, 0), EMPTY, EMPTY, (1, -1, 0, 0)), False), (((1, 0, 0, 1), (1, 0, 0, 1), (0, 1, 0, 0), EMPTY), False),
        ):
            for part in ((1, 1), (2, 7), (BIG, 1)):
                table = table_times((rows, 1), part)
                (self.check_keeps if keeps else self.check_loses)(table)

    def test_diagonal_tables(self):
        for below in (1, 10 ** 6, BIG):
            for q, u, v in ((1, 1, 1), (1, 1, -1), (-1, -1, -1), (1, 0, 0), (0, -1, 1)):
                keeps = diagonal(below, q * below, u * below, v * below, below)
                self.check_keeps(keeps)
                self.check_keeps(diagonal(below + 1, q * below, u * below, v * below, below))
                self.check_loses(diagonal(2 * below - 1, 2 * q * below, 2 * u * below, 2 * v * below, below))
                self.check_loses(table_times(keeps, (-1, 1)))

    def test_diagonal_tables_between_pure_ones(self):
        # Between tables of matrices that can be taken back, diag(i, q, u, v) keeps lights exactly if i is not below the
        # sizes of the other three.
        draw = Draw(9)
        seen = {True: 0, False: 0}
        for _ in range(70):
            below = 10 ** draw.chance.randint(1, 30)
            numbers = [draw.number(1) * below + draw.number(1) for _ in range(3)]
            before, behind = draw.matrix(2), draw.matrix(2)
            if determinant_of(before) != 0 and determinant_of(behind) != 0:
                middle = diagonal(below, *numbers, below)
                table = table_product(table_product(table_of_matrix(before), middle), table_of_matrix(behind))
                keeps = max([abs(number) for number in numbers]) <= below
                seen[keeps] += 1
                (self.check_keeps if keeps else self.check_loses)(table)
        self.assertGreater(min(seen.values()), 10)

    def test_made_tables_with_and_without_a_glass(self):
        draw = Draw(10)
        for _ in range(40):
            made, other = made_table(draw, draw.chance.randint(0, 3)), made_table(draw, draw.chance.randint(0, 2), 1)
            self.check_keeps(made)
            self.check_keeps(table_product(made, GLASS))
            self.check_keeps(table_product(GLASS, made))
            self.check_keeps(table_product(table_product(made, GLASS), other))
            self.check_keeps(table_sum(made, table_product(other, GLASS)))

    def test_one_number_mu_that_is_no_fraction(self):
        for m, n in ((2, 1), (1, 1), (3, 2), (1, 2)):
            self.check_keeps(bordered(m, n))
            for below in (10 ** 6, 10 ** 30):
                self.check_keeps(bordered(m, n, below - 1, below))
                self.check_loses(bordered(m, n, below + 1, below))
        for m, n in ((5, -1), (2, -1), (-2, 1)):
            self.check_loses(bordered(m, n))

    def test_one_number_mu_that_is_no_whole_number(self):
        # The rows I + Q and I - Q of what comes out are x and y; mu goes from (x y - root) / 2 to (x y + root) / 2, where
        # root is that of the product of x with itself and y with itself, so it is x y / 2 alone for a pure x.
        for x, y in (
            ((1, 1, 0, 0), (2, 0, 1, 0)), ((1, 0, 1, 0), (2, 1, 0, 1)), ((3, 2, 2, 1), (1, 0, 0, 0)), ((2, 1, 1, 1), (2, 0, 1, 0)),
            ((3, 1, 1, 1), (4, 1, 2, 0)), ((1, 0, 0, 1), (1, 1, 0, 0)), ((1, 1, 0, 0), (1, -1, 0, 0)),
        ):
            self.check_keeps(halves(x, y, 3))
        for x, y in (((1, 1, 1, 0), (2, 0, 1, 0)), ((2, 0, 1, 0), (1, 1, 1, 0)), ((10 ** 20, 10 ** 20, 1, 0), (1, 0, 0, 0))):
            self.check_loses(halves(x, y, 1))

    def test_tables_of_numbers_with_many_figures(self):
        draw = Draw(12)
        most = 10 ** 40
        for _ in range(2):
            stack = []
            for _ in range(4):
                stack += [("partial", draw.kind(most), draw.share(most), draw.share(most)), ("turner", draw.turn(most))]
            table = table_of_stack(tuple(stack[:7]) + (("dull", (BIG - 1, BIG)),))
            self.assertGreater(table[1], 10 ** 500)
            self.check_keeps(table)
            self.assertEqual(made_rank(table), 4)
            self.check_keeps(table_product(table, GLASS))
            self.check_loses(table_sum(table_product(table, GLASS), table_times(LEVEL, (-1, 1))))

    def test_tables_drawn_by_chance(self):
        draw = Draw(11)
        seen = {True: 0, False: 0}
        for _ in range(120):
            little = table_times(draw.table(2), (1, draw.chance.choice((10, 40, 200))))
            table = table_sum(table_product(made_table(draw, 2), draw.chance.choice((GLASS, UNIT))), little)
            keeps = keeps_lights(table)
            seen[keeps] += 1
            (self.check_keeps if keeps else self.check_loses)(table)
        for _ in range(60):
            table = draw.table()
            (self.check_keeps if keeps_lights(table) else self.check_loses)(table)
        self.assertGreater(min(seen.values()), 10)

    def test_a_table_that_loses_lights_near_one_kind_alone(self):
        table = table_of_numbers([[1, 0, 0, 0], [0, Fraction(1001, 1000), 0, 0], [0, 0, 0, 0], [0, 0, 0, 0]])
        self.check_loses(table)
        self.assertTrue(is_light(led_numbers(table, light_of((1, 0, 1, 0), 1))))


def halves(x, y, below):
    """The table of which I + Q and I - Q come out as two rows."""
    rows = [[one + two for one, two in zip(x, y)], [one - two for one, two in zip(x, y)]]
    return table_of((tuple(rows[0]), tuple(rows[1]), EMPTY, EMPTY), 2 * below)


if __name__ == "__main__":
    unittest.main()
