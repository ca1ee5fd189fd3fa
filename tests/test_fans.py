"""Point [39] and platelights/fans.py: polarisers in a row, and fans of a plate."""

import unittest
from fractions import Fraction

from platelights.errors import InvalidKinds, InvalidNumber, InvalidPlate, InvalidSetting
from platelights.fans import fan_table, row_share
from platelights.plates import through
from platelights.tables import led_light
from tests.cases import NO_WHOLES, Argument, Case
from tests.reckon import dot, multiplied, pair_of, rows_of_plate, rows_of_setting, table_of_numbers
from tests.values import ALONG, BIG, UNIT, WRONG_KINDS, WRONG_PLATES, WRONG_SETTINGS, Draw, wrong_lists

PLAIN = (1, 0, 0, 0, 1)
EAST, WEST, NORTH = (1, 0, 0, 1), (-1, 0, 0, 1), (0, 1, 0, 1)


def turned_by(rows, setting, times):
    """The rows of a plate turned by a setting, so many times over."""
    a, b = setting
    back = setting if b == 0 else (-a, b)
    for _ in range(times):
        rows = multiplied(multiplied(rows_of_setting(a, b), rows), rows_of_setting(*back))
    return rows


def whole_fan(rows, setting, many):
    """The rows of a fan: the plate, the plate turned once, twice and so on, the first one met first."""
    whole = rows
    for times in range(1, many):
        whole = multiplied(turned_by(rows, setting, times), whole)
    return whole


class FansTest(Case):

    def test_examples(self):
        self.gives((1, 8), row_share, (EAST, NORTH, WEST))
        self.gives((0, 1), row_share, (EAST, WEST))
        self.assertEqual(led_light(fan_table(ALONG, (1, 1), 3), PLAIN), (1, -1, 0, 0, 8))

    def test_rows_of_polarisers(self):
        self.gives((1, 1), row_share, ())
        self.gives((1, 2), row_share, (EAST,))
        self.gives((1, 2), row_share, (NORTH,) * 8)
        self.gives((0, 1), row_share, (NORTH, EAST, WEST, NORTH))
        self.gives((1, 256), row_share, (EAST, NORTH) * 4)
        self.gives((9, 20), row_share, ((4, 0, 3, 5), EAST))
        draw = Draw(1)
        for many in (1, 2, 3, 5, 8, 8, 8):
            kinds = tuple([draw.kind() for _ in range(many)])
            share = Fraction(1, 2)
            for one, two in zip(kinds, kinds[1:]):
                share *= (1 + Fraction(dot(one[:3], two[:3]), one[3] * two[3])) / 2
            self.gives(pair_of(share), row_share, kinds)
            led = through(tuple([("polariser", kind) for kind in kinds]), PLAIN)
            self.assertEqual(Fraction(led[0], led[4]), share)

    def test_wrong_kinds(self):
        self.checks_arguments(row_share, Argument("kinds", (EAST, NORTH), InvalidKinds, (), wrong_lists(EAST, WRONG_KINDS, 8)))

    def test_fans(self):
        draw = Draw(2)
        for setting in ((0, 1), (1, 0), (1, 1), (-1, 3), draw.setting(), draw.setting()):
            for plate in (ALONG, ("set", (1, 2), ("turner", (1, 2, 0, 1))), draw.plate(), draw.plate()):
                for many in (1, 2, 3, 7):
                    rows = whole_fan(rows_of_plate(plate), setting, many)
                    self.gives(table_of_numbers(rows), fan_table, plate, setting, many)
        for setting in ((1, 0), (1, 2)):
            rows = whole_fan(rows_of_plate(("dull", (2, 3))), setting, 24)
            self.gives(table_of_numbers(rows), fan_table, ("dull", (2, 3)), setting, 24)
        rows = whole_fan(rows_of_plate(("polariser", (2, 1, 2, 3))), (1, 3), 24)
        self.gives(table_of_numbers(rows), fan_table, ("polariser", (2, 1, 2, 3)), (1, 3), 24)

    def test_edges_of_fans(self):
        self.gives((((1, 1, 0, 0), (1, 1, 0, 0), (0, 0, 0, 0), (0, 0, 0, 0)), 2), fan_table, ALONG, (0, 1), 24)
        self.gives((((0, 0, 0, 0),) * 4, 1), fan_table, ALONG, (1, 0), 2)
        self.gives((((1, 1, 0, 0), (1, 1, 0, 0), (0, 0, 0, 0), (0, 0, 0, 0)), 2), fan_table, ALONG, (1, 0), 1)
        self.gives(UNIT, fan_table, ("grey", (1, 1)), (1, 2), 24)
        self.gives((((1, 0, 0, 0), (0, 0, -1, 0), (0, 1, 0, 0), (0, 0, 0, 1)), 1), fan_table, ("magnet", (1, 1)), (1, 3), 5)
        self.gives((((0, 0, 0, 0),) * 4, 1), fan_table, ("grey", (0, 1)), (1, 3), 3)

    def test_wrong_arguments_of_fans(self):
        self.checks_arguments(
            fan_table,
            Argument("plate", ALONG, InvalidPlate, WRONG_PLATES),
            Argument("setting", (1, 2), InvalidSetting, WRONG_SETTINGS),
            Argument("many", 3, InvalidNumber, NO_WHOLES + (0, -1, 25, BIG, -BIG)),
        )


if __name__ == "__main__":
    unittest.main()
