"""Point [52] and platelights/patchworks.py: patchworks and sums of tables."""

import unittest
from fractions import Fraction
from itertools import combinations

from platelights.errors import InvalidTable, InvalidTables
from platelights.keepers import keeps_lights
from platelights.patchworks import fewest_tables, parting_table, patchwork, sum_weights
from platelights.plates import table_of_plate
from tests.cases import Argument, Case
from tests.reckon import mixed_rows, pair_of, rows_of, table_of_numbers, worth
from tests.values import ALONG, BIG, GLASS, NOUGHT, SLANT, UNIT, UPRIGHT, WRONG_TABLES, Draw, wrong_lists

EAST, WEST, NORTH = [table_of_plate(plate) for plate in (ALONG, UPRIGHT, SLANT)]
GREY, DULL = table_of_plate(("grey", (1, 2))), table_of_plate(("dull", (0, 1)))
TINY = Fraction(1, BIG)


def pairing(rows, table):
    """The sum of products of four rows with a table."""
    return sum(one * two for line, row in zip(rows, rows_of(table)) for one, two in zip(line, row))


def shown_as_sum(tables, table, weights):
    """Whether weights show that a table is a sum of tables."""
    if type(weights) is not tuple or len(weights) != len(tables) or min(worth(weight) for weight in weights) < 0:
        return False
    return mixed_rows(tables, [worth(weight) for weight in weights]) == rows_of(table)


def shown_as_patchwork(tables, table, weights):
    return shown_as_sum(tables, table, weights) and sum(worth(weight) for weight in weights) == 1


def shown_as_none(tables, table, told):
    """Whether a pair of rows and a number shows that a table is no patchwork."""
    if type(told) is not tuple or len(told) != 2 or type(told[0]) is not tuple or type(told[1]) is not int:
        return False
    if len(told[0]) != 4 or any(type(row) is not tuple or len(row) != 4 for row in told[0]):
        return False
    if any(type(number) is not int for row in told[0] for number in row):
        return False
    levels = [pairing(told[0], one) - told[1] for one in tables]
    return min(levels) >= 0 and pairing(told[0], table) - told[1] < 0


class PatchworksTest(Case):

    def check(self, tables, table):
        """Check that either weights or a table that parts is told, and that it shows what is told."""
        weights, told = patchwork(tables, table), parting_table(tables, table)
        self.gives(weights, patchwork, tables, table)
        self.gives(told, parting_table, tables, table)
        self.assertNotEqual(weights is None, told is None)
        if weights is None:
            self.assertTrue(shown_as_none(tables, table, told), (tables, table, told))
            self.gives(None, fewest_tables, tables, table)
            return False
        self.assertTrue(shown_as_patchwork(tables, table, weights))
        fewest = fewest_tables(tables, table)
        self.gives(fewest, fewest_tables, tables, table)
        for many in range(1, len(fewest) + 1):
            for chosen in combinations(range(len(tables)), many):
                some = tuple([tables[at] for at in chosen])
                if chosen == fewest:
                    self.assertTrue(shown_as_patchwork(some, table, patchwork(some, table)))
                    return True
                self.assertTrue(shown_as_none(some, table, parting_table(some, table)))
        return self.fail("no tuple of indexes that is ascending")

    def test_patchworks_by_chance(self):
        draw, seen = Draw(1), {True: 0, False: 0}
        for _ in range(40):
            tables = [draw.table(1) for _ in range(draw.chance.randint(1, 6))]
            if draw.chance.randint(0, 1) and len(tables) > 2:
                tables[2] = table_of_numbers(mixed_rows(tables, [Fraction(1, 3), Fraction(2, 3)]))
                tables[-1] = draw.chance.choice(tables)
            parts = [draw.chance.randint(0, 3) for _ in tables]
            parts[draw.chance.randrange(len(parts))] += 1
            weights = [Fraction(part, sum(parts)) for part in parts]
            rows = mixed_rows(tables, weights)
            self.assertTrue(self.check(tuple(tables), table_of_numbers(rows)))
            for factor in (Fraction(1, 2), Fraction(3), 1 + TINY):
                table = table_of_numbers([[factor * number for number in row] for row in rows])
                told = sum_weights(tuple(tables), table)
                self.gives(told, sum_weights, tuple(tables), table)
                self.assertTrue(shown_as_sum(tables, table, told))
                seen[self.check(tuple(tables), table)] += 1
            self.assertFalse(self.check(tuple(tables), draw.table(3)))
        self.assertGreater(seen[False], 80)

    def test_sums_by_chance(self):
        draw, seen = Draw(2), {True: 0, False: 0}
        for _ in range(60):
            tables = tuple([draw.table(1) for _ in range(draw.chance.randint(1, 6))])
            parts = [Fraction(draw.chance.randint(-1, 4), draw.chance.randint(1, 3)) for _ in tables]
            table = table_of_numbers(mixed_rows(tables, parts))
            told = sum_weights(tables, table)
            self.gives(told, sum_weights, tables, table)
            seen[told is None] += 1
            # So few tables with sixteen numbers each are sums in one way alone, all but never in two.
            self.assertEqual(told is None, min(parts) < 0)
            if told is not None:
                self.assertTrue(shown_as_sum(tables, table, told))
        self.assertGreater(min(seen.values()), 15)

    def test_edges_of_patchworks(self):
        half = table_of_numbers(mixed_rows((UNIT, NOUGHT), (Fraction(1, 2), 0)))
        for tables, table, is_patchwork, is_sum in (
            ((UNIT,), UNIT, True, True), ((UNIT,), half, False, True), ((UNIT, NOUGHT), half, True, True),
            ((UNIT,), NOUGHT, False, True),
            ((NOUGHT,), NOUGHT, True, True), ((NOUGHT,), UNIT, False, False), ((UNIT,) * 6, UNIT, True, True),
            ((UNIT,) * 6, half, False, True),
            ((UNIT, NOUGHT), GREY, True, True), ((EAST, WEST), GREY, False, False), ((GREY,), UNIT, False, True),
            ((UNIT,), GLASS, False, False),
            ((UNIT, GLASS), GLASS, True, True), ((UNIT, GLASS, DULL), DULL, True, True),
            ((EAST, WEST, NORTH), UNIT, False, False),
            ((NOUGHT, NOUGHT, EAST, WEST, NORTH, UNIT), half, True, True),
        ):
            self.assertEqual(self.check(tables, table), is_patchwork, (tables, table))
            told = sum_weights(tables, table)
            self.gives(told, sum_weights, tables, table)
            self.assertEqual(told is not None, is_sum)
            if is_sum:
                self.assertTrue(shown_as_sum(tables, table, told))

    def test_patchworks_at_the_very_edge(self):
        for tables, weights, away in (
            ((UNIT, GLASS), (1, 0), (1 + TINY, -TINY)), ((UNIT, GLASS), (0, 1), (TINY, 1 - TINY)),
            ((EAST, WEST, NORTH), (0, 0, 1), (-TINY, TINY, 1)),
            ((EAST, WEST, NORTH), (0, 1, 0), (TINY, 1 - 2 * TINY, TINY)),
            ((EAST, WEST, NORTH, UNIT), (1, 0, 0, 0), (1, TINY, 0, -TINY)),
        ):
            self.assertTrue(self.check(tables, table_of_numbers(mixed_rows(tables, weights))))
            beside = table_of_numbers(mixed_rows(tables, away))
            self.assertEqual(self.check(tables, beside), min(away) >= 0)
            self.assertEqual(sum_weights(tables, beside) is None, min(away) < 0)

    def test_fewest_tables(self):
        half = table_of_numbers(mixed_rows((UNIT, GLASS), (Fraction(1, 2), Fraction(1, 2))))
        for tables, table, told in (
            ((UNIT, GLASS), half, (0, 1)), ((UNIT, GLASS, half), half, (2,)),
            ((EAST, UNIT, NOUGHT, GLASS), half, (1, 3)),
            ((UNIT, UNIT), UNIT, (0,)), ((NOUGHT, UNIT, GLASS, UNIT, GLASS), half, (1, 2)),
            ((NOUGHT, UNIT), NOUGHT, (0,)),
            ((UNIT, NOUGHT), NOUGHT, (1,)), ((UNIT, GLASS), EAST, None), ((UNIT,), half, None),
        ):
            self.gives(told, fewest_tables, tables, table)

    def test_patchworks_of_tables_that_keep_lights_keep_them(self):
        draw = Draw(3)
        for _ in range(6):
            tables = [table_of_plate(draw.plate()) for _ in range(4)]
            table = table_of_numbers(mixed_rows(tables, [Fraction(at + 1, 10) for at in range(4)]))
            self.assertTrue(self.check(tuple(tables), table))
            self.assertTrue(keeps_lights(table))

    def test_numbers_with_many_figures(self):
        huge, draw = 10 ** 399, Draw(4)
        tables = []
        for at in range(4):
            rows = [[Fraction(huge + draw.number(9), huge + at) for _ in range(4)] for _ in range(4)]
            tables.append(table_of_numbers(rows))
        weights = [Fraction(1, huge), Fraction(1, 3), Fraction(1, 7)]
        weights.append(1 - sum(weights))
        self.assertTrue(self.check(tuple(tables), table_of_numbers(mixed_rows(tables, weights))))
        self.assertFalse(self.check(tuple(tables), table_of_numbers(mixed_rows(tables, weights[:3]))))
        self.assertEqual(
            pair_of(weights[0]), patchwork(tuple(tables), table_of_numbers(mixed_rows(tables, weights)))[0],
        )

    def test_wrong_arguments(self):
        some = Argument("tables", (UNIT, EAST), InvalidTables, (), wrong_lists(UNIT, WRONG_TABLES, 6) + [((), None)])
        a_table = Argument("table", GREY, InvalidTable, WRONG_TABLES)
        for function in (patchwork, sum_weights, parting_table, fewest_tables):
            self.checks_arguments(function, some, a_table)


if __name__ == "__main__":
    unittest.main()
