"""Points [11], [14] and [20] and platelights/tables.py: tables, shares, and lights that tell a table."""

import unittest
from fractions import Fraction
from itertools import combinations

from platelights.errors import InvalidFraction, InvalidImages, InvalidLight, InvalidLights, InvalidNumber, InvalidRows
from platelights.errors import InvalidTable, NoLight
from platelights.fractions import is_surd
from platelights.lights import added, is_light, times
from platelights.tables import brightens, greatest_share, is_table, is_told, least_share, led_light, led_numbers
from platelights.tables import table_from, table_of, table_product, table_sum, table_times, tell_table, unit
from tests import reckon
from tests.cases import NO_TUPLES, NO_WHOLES, PRICKLY, STRANGE, Argument, Case, wrong_rows
from tests.reckon import compared_with_surd, numbers_of, row_of, rows_of, table_of_numbers, worth
from tests.values import BIG, GLASS, NOUGHT, UNIT, WRONG_FRACTIONS, WRONG_LIGHTS, WRONG_ROWS, WRONG_TABLES, Draw
from tests.values import wrong_lists

DARK, PLAIN, ALONG, SLANT, ROUND = (0, 0, 0, 0, 1), (1, 0, 0, 0, 1), (1, 1, 0, 0, 1), (1, 0, 1, 0, 1), (1, 0, 0, 1, 1)
TELLING = (PLAIN, ALONG, SLANT, ROUND)
TABLES = [UNIT, NOUGHT, GLASS, (((0, 1, 0, 0),) + ((0, 0, 0, 0),) * 3, 1), (((1, 2, 3, 4),) * 4, 7)]


def first_row_table(row, below):
    """A table with a first row and noughts elsewhere."""
    return (((row,) + ((0, 0, 0, 0),) * 3), below)


def some_tables(seed, many):
    draw = Draw(seed)
    return TABLES + [draw.table() for _ in range(many)]


class TablesTest(Case):

    def test_what_is_a_table(self):
        for table in some_tables(1, 20) + [(((2, 4, 6, 8),) * 4, 3), (((BIG,) * 4,) * 4, BIG + 1)]:
            self.gives(True, is_table, table)
        for number, value in enumerate(WRONG_TABLES):
            with self.subTest(number=number):
                self.gives(False, is_table, value)

    def test_a_divisor_of_all_seventeen_numbers_alone_bars_a_table(self):
        for at in range(4):
            for place in range(4):
                rows = [[6] * 4 for _ in range(4)]
                self.gives(False, is_table, (tuple([tuple(row) for row in rows]), 3))
                rows[at][place] = 7
                self.gives(True, is_table, (tuple([tuple(row) for row in rows]), 3))

    def test_table_of(self):
        for table in some_tables(2, 20):
            for many in (1, 2, 6):
                rows = tuple([tuple([many * number for number in row]) for row in table[0]])
                self.gives(table, table_of, rows, many * table[1])
        self.gives(NOUGHT, table_of, NOUGHT[0], 12)
        self.gives((((1, 0, 0, 0),) * 4, 2), table_of, ((3, 0, 0, 0),) * 4, 6)

    def test_wrong_arguments_of_table_of(self):
        self.checks_arguments(
            table_of,
            Argument("rows", UNIT[0], InvalidRows, WRONG_ROWS),
            Argument("below", 6, InvalidNumber, NO_WHOLES + (0, -1, -BIG)),
        )

    def test_unit(self):
        self.gives(UNIT, unit)
        for light in TELLING:
            self.assertEqual(led_light(unit(), light), light)

    def test_sums_products_and_multiples(self):
        tables = some_tables(3, 12)
        for table in tables:
            for other in tables:
                one, two = rows_of(table), rows_of(other)
                whole = [[x + y for x, y in zip(row, beside)] for row, beside in zip(one, two)]
                self.gives(table_of_numbers(whole), table_sum, table, other)
                self.gives(table_of_numbers(reckon.multiplied(one, two)), table_product, table, other)
            for part in ((0, 1), (1, 1), (-1, 1), (-3, 7), (4, 6 * BIG + 1), (BIG, 3)):
                told = [[worth(part) * number for number in row] for row in rows_of(table)]
                self.gives(table_of_numbers(told), table_times, table, part)
        self.gives(NOUGHT, table_times, GLASS, (0, 1))
        self.gives(NOUGHT, table_sum, GLASS, table_times(GLASS, (-1, 1)))

    def test_a_product_leads_to_what_the_first_makes_of_what_the_other_makes(self):
        first, other = (((1, 1, 0, 0),) * 2 + ((0, 0, 0, 0),) * 2, 2), (((1, 0, 1, 0), (0,) * 4, (1, 0, 1, 0), (0,) * 4), 2)
        self.assertEqual(led_light(table_product(first, other), PLAIN), led_light(first, led_light(other, PLAIN)))
        self.assertEqual(led_light(table_product(first, other), PLAIN), (1, 1, 0, 0, 4))
        self.assertEqual(led_light(table_product(other, first), PLAIN), (1, 0, 1, 0, 4))

    def test_wrong_arguments_of_sums_products_and_multiples(self):
        for function in (table_sum, table_product):
            self.checks_arguments(
                function,
                Argument("table", UNIT, InvalidTable, WRONG_TABLES),
                Argument("other", GLASS, InvalidTable, WRONG_TABLES),
            )
        self.checks_arguments(
            table_times,
            Argument("table", UNIT, InvalidTable, WRONG_TABLES),
            Argument("part", (-1, 2), InvalidFraction, WRONG_FRACTIONS),
        )

    def test_led_numbers_and_led_light(self):
        draw = Draw(4)
        lights = [DARK, *TELLING] + [draw.light() for _ in range(15)]
        lost = 0
        for table in some_tables(5, 15):
            for light in lights:
                told = row_of(reckon.led(rows_of(table), numbers_of(light)))
                self.gives(told, led_numbers, table, light)
                if is_light(told):
                    self.gives(told, led_light, table, light)
                else:
                    lost += 1
                    for call in (lambda: led_light(table, light), lambda: led_light(table=table, light=light)):
                        with self.assertRaises(NoLight) as caught:
                            call()
                        self.assertEqual(vars(caught.exception), {"given": told})
        self.assertGreater(lost, 50)

    def test_led_numbers_of_no_light(self):
        table = first_row_table((0, 1, 0, 0), 1)
        self.gives((-1, 0, 0, 0, 1), led_numbers, table, (1, -1, 0, 0, 1))
        with self.assertRaises(NoLight) as caught:
            led_light(table, (1, -1, 0, 0, 3))
        self.assertEqual(caught.exception.given, (-1, 0, 0, 0, 3))
        self.gives(DARK, led_light, NOUGHT, (5, 3, 0, 4, 2))

    def test_wrong_arguments_of_led_numbers_and_led_light(self):
        for function in (led_numbers, led_light):
            self.checks_arguments(
                function,
                Argument("table", GLASS, InvalidTable, WRONG_TABLES),
                Argument("light", PLAIN, InvalidLight, WRONG_LIGHTS),
            )

    def test_shares_examples(self):
        along = (((1, 1, 0, 0), (1, 1, 0, 0), (0,) * 4, (0,) * 4), 2)
        self.gives(((1, 1), 0, (0, 1)), greatest_share, along)
        self.gives(((0, 1), 0, (0, 1)), least_share, along)
        self.gives(((1, 3), 1, (2, 9)), greatest_share, first_row_table((1, 1, 1, 0), 3))
        self.gives(((1, 3), -1, (2, 9)), least_share, first_row_table((1, 1, 1, 0), 3))
        self.gives(False, brightens, unit())

    def test_shares_by_squares(self):
        for table in some_tables(6, 40):
            m, *rest = rows_of(table)[0]
            square = sum(number * number for number in rest)
            for function, side in ((greatest_share, 1), (least_share, -1)):
                surd = function(table)
                self.gives(surd, function, table)
                self.assertTrue(is_surd(surd))
                part, sign, root = surd
                # (surd - m) is side times a root: its square is the square, and its sign is the side.
                if sign == 0:
                    self.assertEqual((worth(part) - m) ** 2, square)
                    self.assertGreaterEqual(side * (worth(part) - m), 0)
                else:
                    self.assertEqual((worth(part), sign, worth(root)), (m, side, square))

    def test_shares_are_those_of_all_lights(self):
        draw = Draw(7)
        for table in some_tables(8, 15):
            for _ in range(25):
                light = draw.light()
                if light != DARK:
                    numbers = numbers_of(light)
                    share = reckon.dot(rows_of(table)[0], numbers) / numbers[0]
                    self.assertLessEqual(compared_with_surd(share, greatest_share(table)), 0)
                    self.assertGreaterEqual(compared_with_surd(share, least_share(table)), 0)

    def test_ends_of_shares_are_taken(self):
        table = first_row_table((5, 3, 0, 4), 10)
        self.gives(((1, 1), 0, (0, 1)), greatest_share, table)
        self.gives(((0, 1), 0, (0, 1)), least_share, table)
        self.assertEqual(led_numbers(table, (5, 3, 0, 4, 5)), PLAIN)
        self.assertEqual(led_numbers(table, (5, -3, 0, -4, 5)), DARK)
        self.gives(((-2, 3), 0, (0, 1)), greatest_share, first_row_table((-2, 0, 0, 0), 3))
        self.gives(((-2, 3), 0, (0, 1)), least_share, first_row_table((-2, 0, 0, 0), 3))
        self.gives(((-1, 1), 1, (3, 1)), greatest_share, first_row_table((-1, 1, -1, 1), 1))

    def test_brightens(self):
        for row, below, want in (
            ((1, 0, 0, 0), 1, False), ((2, 0, 0, 0), 1, True), ((1, 1, 0, 0), 2, False), ((1, 1, 0, 1), 2, True),
            ((2, 1, 2, 2), 5, False), ((2, 1, 2, 2), 4, True), ((0, 0, 0, 2), 1, True), ((0, 0, 0, -2), 1, True),
            ((0, 0, 0, -1), 1, False), ((-5, 4, 4, 2), 1, False), ((-5, 4, 4, 3), 1, True), ((1, 0, 0, 1), BIG, False),
            ((10 ** 20, 1, 0, 0), 10 ** 20 + 1, False), ((10 ** 20, 1, 1, 0), 10 ** 20 + 1, True),
            ((-1, 0, 0, 0), 1, False), ((0, 0, 0, 0), 1, False),
        ):
            self.gives(want, brightens, first_row_table(row, below))
        # Just the first row tells it.
        self.gives(False, brightens, (((1, 0, 0, 0), (9, 0, 0, 0), (0, 9, 0, 0), (9, 9, 9, 9)), 1))

    def test_wrong_arguments_of_shares(self):
        for function in (greatest_share, least_share, brightens):
            self.checks_arguments(function, Argument("table", UNIT, InvalidTable, WRONG_TABLES))

    def test_table_from_the_four_images(self):
        for table in some_tables(9, 30):
            images = tuple([led_numbers(table, light) for light in TELLING])
            self.gives(table, table_from, images)
        self.gives(UNIT, table_from, TELLING)
        self.gives(NOUGHT, table_from, (DARK,) * 4)
        images = ((1, 2, 3, 4, 5), (0, 0, 0, -1, 2), (-7, 0, 1, 1, 3), (BIG, 0, 0, 0, 7))
        for light, image in zip(TELLING, images):
            self.assertEqual(led_numbers(table_from(images), light), image)

    def test_wrong_arguments_of_table_from(self):
        short = [(), TELLING[:3], TELLING + (PLAIN,), TELLING * 2, list(TELLING)]
        indexed = [(value, None) for value in NO_TUPLES + tuple(short)]
        wrong = list(STRANGE) + wrong_rows((1, 2, 3, 4, 5)) + [
            0, (1, 0, 0, 0, 0), (1, 0, 0, 0, -1), (2, 0, 0, 0, 2), (0, 0, 0, 0, 2), (2, 4, 6, 8, 10), (1, 0, 0, 0), PRICKLY,
        ]
        for image in wrong:
            indexed += [(TELLING[:at] + (image,) + TELLING[at + 1:], at) for at in range(4)]
            indexed += [((PLAIN, image, image, PLAIN), 1), ((image,) * 4, 0), ((PLAIN, PLAIN, image, image), 2)]
        self.checks_arguments(table_from, Argument("images", TELLING, InvalidImages, (), indexed))

    def test_tell_table(self):
        self.gives(True, tell_table, TELLING)
        for lights in (
            (), (PLAIN,), TELLING[:3], TELLING[1:], TELLING[:1] + TELLING[2:], (DARK,) * 8, (PLAIN,) * 4,
            (PLAIN, ALONG, (1, -1, 0, 0, 1), SLANT), (PLAIN, ALONG, SLANT, (1, 0, -1, 0, 1), (3, 2, 2, 0, 1)),
            (DARK, PLAIN, ALONG, SLANT, (2, 0, 0, 0, 3), (3, 1, 2, 0, 7), (5, 3, 4, 0, 2), DARK),
        ):
            self.gives(False, tell_table, lights)
        flat = (PLAIN, ALONG, (1, -1, 0, 0, 1), SLANT, (1, 0, -1, 0, 1), (3, 2, 2, 0, 1), DARK)
        self.gives(True, tell_table, flat + ((10 ** 30, 0, 0, 1, 1),))
        self.gives(False, tell_table, flat + ((10 ** 30, 0, 1, 0, 1),))
        self.gives(True, tell_table, ((1, 1, 0, 0, 1), (1, -1, 0, 0, 1), SLANT, ROUND))

    def test_tell_table_by_determinants(self):
        draw = Draw(10)
        seen = {True: 0, False: 0}
        for _ in range(150):
            lights = tuple([draw.chance.choice((draw.light(1), draw.light(2))) for _ in range(draw.chance.randint(3, 5))])
            want = any(determinant([list(light[:4]) for light in four]) != 0 for four in combinations(lights, 4))
            self.gives(want, tell_table, lights)
            seen[want] += 1
        self.assertGreater(min(seen.values()), 20)

    def test_two_tables_part_where_lights_do_not_tell(self):
        # The lights do not reach V, so a table that uses V alone makes the same of them as the one of noughts.
        lights = (PLAIN, ALONG, SLANT, (1, 0, -1, 0, 1))
        self.gives(False, tell_table, lights)
        other = first_row_table((0, 0, 0, 1), 1)
        self.assertTrue(all(led_numbers(other, light) == led_numbers(NOUGHT, light) for light in lights))

    def test_wrong_arguments_of_tell_table(self):
        indexed = wrong_lists(PLAIN, WRONG_LIGHTS, 8)
        self.checks_arguments(tell_table, Argument("lights", TELLING, InvalidLights, (), indexed))
        self.gives(True, tell_table, TELLING * 2)

    def test_is_told(self):
        for lights, light, want in (
            (TELLING, (5, 3, 0, 4, 2), True), ((), PLAIN, False), ((), DARK, True), ((DARK,), DARK, True),
            ((DARK,), PLAIN, False), ((PLAIN,), (2, 0, 0, 0, 3), True), ((PLAIN,), ALONG, False),
            ((PLAIN, ALONG), (1, -1, 0, 0, 1), True), ((PLAIN, ALONG), (3, -1, 0, 0, 7), True),
            ((PLAIN, ALONG), SLANT, False), (TELLING[1:], PLAIN, False), (TELLING[1:], (3, 1, 1, 1, 1), True),
            ((ALONG, SLANT), (2, 1, 1, 0, 5), True), ((ALONG, SLANT), (3, 1, 1, 0, 5), False),
            ((ALONG, SLANT, (2, 1, 1, 0, 5)), (4, 3, 1, 0, 1), True), ((ALONG, SLANT, (2, 1, 1, 0, 5)), PLAIN, False),
            ((PLAIN,), DARK, True), ((PLAIN, ALONG, SLANT) * 2 + (DARK, PLAIN), ROUND, False),
            (((10 ** 30, 1, 0, 0, 1), PLAIN), ALONG, True), (((10 ** 30, 1, 0, 0, 1), PLAIN), SLANT, False),
        ):
            self.gives(want, is_told, lights, light)

    def test_what_is_made_of_some_lights_tells_that_of_their_sums(self):
        draw = Draw(11)
        for _ in range(40):
            lights = tuple([draw.light() for _ in range(draw.chance.randint(1, 4))])
            whole = DARK
            for light in lights:
                whole = added(whole, times(light, draw.share()))
            self.gives(True, is_told, lights, whole)

    def test_a_light_is_told_by_itself_and_by_lights_that_tell_a_table(self):
        draw = Draw(12)
        for _ in range(40):
            lights = tuple([draw.light(2) for _ in range(4)])
            light = draw.light(2)
            self.gives(True, is_told, lights, lights[2])
            if tell_table(lights):
                self.gives(True, is_told, lights, light)

    def test_wrong_arguments_of_is_told(self):
        self.checks_arguments(
            is_told,
            Argument("lights", TELLING, InvalidLights, (), wrong_lists(PLAIN, WRONG_LIGHTS, 8)),
            Argument("light", PLAIN, InvalidLight, WRONG_LIGHTS),
        )


def determinant(rows):
    """The determinant of whole numbers, by rows."""
    if len(rows) == 1:
        return rows[0][0]
    total = 0
    for at, number in enumerate(rows[0]):
        rest = [row[:at] + row[at + 1:] for row in rows[1:]]
        total += (-1) ** at * number * determinant(rest)
    return Fraction(total)


if __name__ == "__main__":
    unittest.main()
