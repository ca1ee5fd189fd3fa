"""Points [12], [13] and [20] and platelights/plates.py: settings, the sorts of plates, stacks, and what they do."""

import unittest

from platelights.errors import InvalidLight, InvalidPlate, InvalidStack
from platelights.lights import is_light
from platelights.plates import are_alike, is_plate, is_stack, parting_light, table_of_plate, table_of_stack, through
from platelights.tables import brightens, is_table, led_light
from tests import reckon
from tests.cases import NO_TUPLES, PRICKLY, Argument, Case
from tests.reckon import numbers_of, row_of, rows_of_plate, rows_of_stack, table_of_numbers
from tests.values import ALONG, BIG, GLASS, HALF, NOUGHT, SLANT, UNIT, UPRIGHT, WRONG_LIGHTS, WRONG_PLATES
from tests.values import WRONG_SETTINGS, WRONG_TURNS, WRONG_FRACTIONS, WRONG_KINDS, Draw, wrong_lists

PLAIN = (1, 0, 0, 0, 1)
NET = ("partial", (2, 1, 2, 3), (1, 2), (1, 3))
EDGES = (
    ALONG, SLANT, UPRIGHT, ("polariser", (0, 0, 1, 1)), ("polariser", (0, 0, -1, 1)), ("polariser", (2, -1, 2, 3)), NET,
    ("partial", (2, 1, 2, 3), (1, 1), (0, 1)), ("partial", (2, 1, 2, 3), (0, 1), (0, 1)), ("glass",),
    ("partial", (0, 3, -4, 5), (1, 1), (1, 1)), ("partial", (0, 0, 1, 1), (0, 1), (1, 1)), ("turner", (1, 0, 0, 0)),
    ("partial", (1, 0, 0, 1), (2, 3), (2, 3)), ("turner", (1, 1, 1, 1)), ("turner", (0, 0, 0, 1)), ("magnet", (0, 1)),
    ("magnet", (1, 0)), ("magnet", (-1, 2)), ("magnet", (BIG, 1)), ("grey", (0, 1)), ("grey", (1, 1)), HALF,
    ("dull", (0, 1)), ("dull", (1, 1)), ("dull", (2, 3)), ("turner", (3, -1, 2, 5)),
)
SETTINGS = ((0, 1), (1, 1), (-1, 1), (1, 0), (1, 2), (-3, 2), (1, BIG))


class PlatesTest(Case):

    def test_what_is_a_plate(self):
        for plate in EDGES:
            self.gives(True, is_plate, plate)
            for setting in SETTINGS:
                self.gives(True, is_plate, ("set", setting, plate))
        for number, value in enumerate(WRONG_PLATES):
            with self.subTest(number=number):
                self.gives(False, is_plate, value)

    def test_wrong_parts_of_plates(self):
        for word, wrong in (
            ("polariser", WRONG_KINDS), ("turner", WRONG_TURNS), ("magnet", WRONG_SETTINGS), ("grey", WRONG_FRACTIONS),
            ("dull", WRONG_FRACTIONS),
        ):
            for number, part in enumerate(wrong):
                with self.subTest(word=word, number=number):
                    self.gives(False, is_plate, (word, part))
                    self.gives(False, is_plate, ("set", (1, 1), (word, part)))
        for number, part in enumerate(WRONG_FRACTIONS + [(3, 2), (-1, 2), (BIG + 1, BIG), (2, 1), (-1, 1)]):
            with self.subTest(word="partial", number=number):
                self.gives(False, is_plate, ("partial", (2, 1, 2, 3), part, (1, 2)))
                self.gives(False, is_plate, ("partial", (2, 1, 2, 3), (1, 2), part))
                self.gives(False, is_plate, ("grey", part))
                self.gives(False, is_plate, ("dull", part))
        for number, part in enumerate(WRONG_KINDS):
            with self.subTest(word="partial", kind=number):
                self.gives(False, is_plate, ("partial", part, (1, 2), (1, 2)))

    def test_settings_of_plates(self):
        for setting in SETTINGS:
            self.gives(True, is_plate, ("magnet", setting))
            self.gives(True, is_plate, ("set", setting, ALONG))
        for number, setting in enumerate(WRONG_SETTINGS):
            with self.subTest(number=number):
                self.gives(False, is_plate, ("set", setting, ALONG))

    def test_no_set_plate_within_a_set_one(self):
        for plate in (ALONG, ("glass",), NET):
            self.gives(True, is_plate, ("set", (1, 1), plate))
            self.gives(False, is_plate, ("set", (1, 1), ("set", (0, 1), plate)))
            self.gives(False, is_plate, ("set", (1, 1), ("set", (1, 1), ("set", (0, 1), plate))))

    def test_what_is_a_stack(self):
        for stack in ((), (ALONG,), (ALONG,) * 8, (("set", (1, 0), ("glass",)), NET), EDGES[:8]):
            self.gives(True, is_stack, stack)
        for number, value in enumerate(NO_TUPLES + ((ALONG,) * 9, [ALONG], EDGES, ALONG, (ALONG, "glass"))):
            with self.subTest(number=number):
                self.gives(False, is_stack, value)
        for number, value in enumerate(WRONG_PLATES):
            with self.subTest(number=number):
                self.gives(False, is_stack, (value,))
                self.gives(False, is_stack, (ALONG, ALONG, value, ALONG))

    def test_examples(self):
        rows = ((1, 1, 0, 0), (1, 1, 0, 0), (0, 0, 0, 0), (0, 0, 0, 0))
        self.gives((rows, 2), table_of_plate, ALONG)
        self.gives(GLASS, table_of_plate, ("glass",))
        self.gives((1, 0, 1, 0, 4), through, (ALONG, SLANT), PLAIN)
        self.gives((1, -1, 0, 0, 8), through, (ALONG, SLANT, UPRIGHT), PLAIN)
        self.gives(True, are_alike, (ALONG, ALONG), (ALONG,))
        self.gives(False, are_alike, (("set", (1, 1), ALONG),), (UPRIGHT,))
        self.gives(True, are_alike, (("set", (1, 1), ALONG),), (SLANT,))
        self.gives(True, are_alike, (("magnet", (1, 1)),), (("turner", (1, 0, 0, 1)),))
        self.gives(False, are_alike, (("magnet", (1, 0)),), ())

    def test_tables_of_plates(self):
        draw = Draw(1)
        for plate in EDGES + tuple([draw.bare_plate() for _ in range(80)]):
            self.gives(table_of_numbers(rows_of_plate(plate)), table_of_plate, plate)
            for setting in SETTINGS[:-1] + (draw.setting(),):
                turned = ("set", setting, plate)
                self.gives(table_of_numbers(rows_of_plate(turned)), table_of_plate, turned)

    def test_tables_of_plates_by_hand(self):
        nought = (0, 0, 0, 0)
        for plate, rows, below in (
            (("polariser", (0, 0, -1, 1)), ((1, 0, 0, -1), nought, nought, (-1, 0, 0, 1)), 2),
            (("polariser", (3, 0, 4, 5)), ((25, 15, 0, 20), (15, 9, 0, 12), nought, (20, 12, 0, 16)), 50),
            (("partial", (1, 0, 0, 1), (1, 1), (1, 2)), ((5, 3, 0, 0), (3, 5, 0, 0), (0, 0, 4, 0), (0, 0, 0, 4)), 8),
            (("partial", (0, 0, 1, 1), (0, 1), (1, 2)), ((1, 0, 0, -1), nought, nought, (-1, 0, 0, 1)), 8),
            (("turner", (1, 1, 0, 0)), ((1, 0, 0, 0), (0, 1, 0, 0), (0, 0, 0, -1), (0, 0, 1, 0)), 1),
            (("turner", (2, 0, 0, 1)), ((5, 0, 0, 0), (0, 3, -4, 0), (0, 4, 3, 0), (0, 0, 0, 5)), 5),
            (("magnet", (1, 2)), ((5, 0, 0, 0), (0, 3, -4, 0), (0, 4, 3, 0), (0, 0, 0, 5)), 5),
            (("magnet", (1, 0)), ((1, 0, 0, 0), (0, -1, 0, 0), (0, 0, -1, 0), (0, 0, 0, 1)), 1),
            (("grey", (2, 3)), ((2, 0, 0, 0), (0, 2, 0, 0), (0, 0, 2, 0), (0, 0, 0, 2)), 3),
            (("dull", (2, 3)), ((3, 0, 0, 0), (0, 2, 0, 0), (0, 0, 2, 0), (0, 0, 0, 2)), 3),
            (("dull", (0, 1)), ((1, 0, 0, 0), nought, nought, nought), 1), (("grey", (0, 1)), (nought,) * 4, 1),
            (("set", (1, 2), ALONG), ((25, 15, 20, 0), (15, 9, 12, 0), (20, 12, 16, 0), nought), 50),
            (("set", (1, 0), ("turner", (1, 1, 0, 0))), ((1, 0, 0, 0), (0, 1, 0, 0), (0, 0, 0, 1), (0, 0, -1, 0)), 1),
            (("set", (1, 1), ("turner", (1, 1, 0, 0))), ((1, 0, 0, 0), (0, 0, 0, 1), (0, 0, 1, 0), (0, -1, 0, 0)), 1),
        ):
            self.gives((rows, below), table_of_plate, plate)

    def test_tables_of_stacks(self):
        draw = Draw(2)
        self.gives(UNIT, table_of_stack, ())
        for _ in range(60):
            stack = draw.stack()
            table = table_of_stack(stack)
            self.gives(table_of_numbers(rows_of_stack(stack)), table_of_stack, stack)
            self.assertTrue(is_table(table))
            self.assertFalse(brightens(table))
            light = draw.light()
            self.gives(row_of(reckon.led(rows_of_stack(stack), numbers_of(light))), through, stack, light)
            self.assertTrue(is_light(through(stack, light)))
            self.assertEqual(led_light(table, light), through(stack, light))
        eight = (ALONG, ("turner", (1, 1, 1, 1)), HALF, NET, ("glass",), ("set", (1, 2), NET), ("dull", (1, 3)), SLANT)
        self.gives(table_of_numbers(rows_of_stack(eight)), table_of_stack, eight)

    def test_polarisers_of_one_kind_and_opposite_ones(self):
        draw = Draw(3)
        for _ in range(20):
            q, u, v, n = draw.kind()
            one, other = ("polariser", (q, u, v, n)), ("polariser", (-q, -u, -v, n))
            self.gives(True, are_alike, (one, one), (one,))
            self.gives(NOUGHT, table_of_stack, (one, other))
            self.gives((0, 0, 0, 0, 1), through, (one, other), draw.light())
            self.gives(True, are_alike, (one, other), (("grey", (0, 1)),))
            self.gives(True, are_alike, (("partial", (q, u, v, n), (1, 1), (0, 1)),), (one,))
            self.gives(True, are_alike, (("partial", (q, u, v, n), (0, 1), (1, 1)),), (other,))
            self.gives(False, are_alike, (one,), (other,))

    def test_stacks_that_do_the_same_though_told_unlike(self):
        for stack, other in (
            ((), (("grey", (1, 1)),)), ((), (("dull", (1, 1)),)), ((), (("magnet", (0, 1)),)), ((("glass",),) * 2, ()),
            ((("turner", (1, 0, 0, 0)),), (("partial", (2, 1, 2, 3), (1, 1), (1, 1)),)), ((HALF, HALF), (("grey", (1, 4)),)),
            ((("turner", (0, 1, 0, 0)), ("turner", (0, 0, 1, 0))), (("turner", (0, 0, 0, 1)),)),
            ((("magnet", (1, 0)),), (("turner", (0, 0, 0, 1)),)), ((NET, ("grey", (0, 1))), (ALONG, UPRIGHT)),
            ((("set", (1, 0), ALONG),), (UPRIGHT,)), ((("set", (0, 1), NET),), (NET,)),
            ((("set", (1, 1), UPRIGHT),), (("polariser", (0, -1, 0, 1)),)), ((("set", (1, 2), ("glass",)),), (("glass",),)),
            ((("set", (1, 2), ("magnet", (2, 3))),), (("magnet", (2, 3)),)), ((("dull", (1, 2)), HALF), (HALF, ("dull", (1, 2)))),
            ((("turner", (1, 1, 1, 1)),) * 3, ()), ((("partial", (1, 0, 0, 1), (1, 2), (1, 2)),), (("grey", (1, 4)),)),
        ):
            self.gives(True, are_alike, stack, other)
            self.gives(None, parting_light, stack, other)

    def test_set_plates(self):
        for setting in SETTINGS[:-1]:
            a, b = setting
            back = (a, b) if b == 0 else (-a, b)
            self.gives(True, are_alike, (("magnet", back), NET, ("magnet", setting)), (("set", setting, NET),))
            unlike = (a, b) not in ((0, 1), (1, 0))
            self.gives(not unlike, are_alike, (("magnet", setting), NET, ("magnet", back)), (("set", setting, NET),))

    def test_parting_lights(self):
        draw = Draw(4)
        parted = 0
        stacks = [draw.stack(3) for _ in range(40)] + [(plate,) for plate in EDGES]
        for stack in stacks:
            other = draw.chance.choice(stacks)
            alike = rows_of_stack(stack) == rows_of_stack(other)
            self.gives(alike, are_alike, stack, other)
            light = parting_light(stack, other)
            self.gives(light, parting_light, stack, other)
            if alike:
                self.assertIsNone(light)
            else:
                parted += 1
                self.assertTrue(is_light(light))
                self.assertNotEqual(
                    reckon.led(rows_of_stack(stack), numbers_of(light)), reckon.led(rows_of_stack(other), numbers_of(light)))
                self.assertNotEqual(through(stack, light), through(other, light))
        self.assertGreater(parted, 40)

    def test_stacks_that_part_on_few_lights_alone(self):
        # They differ in one direction each, so just some of the lights of point [20] show it.
        for one, other in (
            (("polariser", (0, 0, 1, 1)), ("polariser", (0, 0, -1, 1))), (("glass",), ("grey", (1, 1))),
            (ALONG, UPRIGHT), (SLANT, ("polariser", (0, -1, 0, 1))), (("dull", (1, 2)), ("dull", (1, 3))),
            (("turner", (1, 1, 0, 0)), ("turner", (1, -1, 0, 0))), (("turner", (1, 0, 1, 0)), ("turner", (1, 0, -1, 0))),
            (("turner", (1, 0, 0, 1)), ("turner", (1, 0, 0, -1))), (("grey", (1, BIG)), ("grey", (1, BIG + 1))),
        ):
            self.gives(False, are_alike, (one,), (other,))
            light = parting_light((one,), (other,))
            self.assertTrue(is_light(light))
            self.assertNotEqual(through((one,), light), through((other,), light))

    def test_wrong_arguments(self):
        self.checks_arguments(table_of_plate, Argument("plate", NET, InvalidPlate, WRONG_PLATES))
        indexed = wrong_lists(ALONG, WRONG_PLATES, 8)
        stack = Argument("stack", (ALONG, NET), InvalidStack, (), indexed)
        other = Argument("other", (SLANT,), InvalidStack, (), indexed)
        self.checks_arguments(table_of_stack, stack)
        self.checks_arguments(through, stack, Argument("light", PLAIN, InvalidLight, WRONG_LIGHTS))
        self.checks_arguments(are_alike, stack, other)
        self.checks_arguments(parting_light, stack, other)
        self.refuses(InvalidStack, "index", 0, lambda: table_of_stack(ALONG))
        self.refuses(InvalidStack, "index", 1, lambda: table_of_stack((ALONG, PRICKLY)))


if __name__ == "__main__":
    unittest.main()
