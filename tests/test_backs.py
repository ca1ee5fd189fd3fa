"""Points [30] to [33] and platelights/backs.py: light that comes the other way, one-way glasses and round tables."""

import unittest

from platelights.backs import is_reciprocal, plate_back, returns, round_table, round_turn, stack_back, ways
from platelights.errors import InvalidPlate, InvalidStack, InvalidTurn
from platelights.plates import is_plate, is_stack
from platelights.turns import is_turn, turn_of_table
from tests.cases import Argument, Case
from tests.reckon import diagonal, led, multiplied, rows_of_plate, rows_of_stack, table_of_numbers
from tests.values import ALONG, GLASS, SLANT, UNIT, UPRIGHT, WRONG_PLATES, WRONG_TURNS, Draw, wrong_lists

RIGHT, LEFT = ("polariser", (0, 0, 1, 1)), ("polariser", (0, 0, -1, 1))
MAGNET, OVER = ("magnet", (1, 1)), SLANT
QUARTER = ("turner", (1, 0, 1, 0))
D = diagonal(1, 1, 1, -1)


def has_magnet(plate):
    return plate[0] == "magnet" or plate[0] == "set" and plate[2][0] == "magnet"


def turned_back(rows):
    """D times the rows turned over times D."""
    return multiplied(multiplied(D, [list(column) for column in zip(*rows)]), D)


def rows_back(plate):
    """The sixteen numbers of a plate's back: those of a magnet are its own, all others by D M' D."""
    if has_magnet(plate):
        return rows_of_plate(plate)
    return turned_back(rows_of_plate(plate))


def rows_of_back(stack):
    rows = diagonal(1, 1, 1, 1)
    for plate in reversed(stack):
        rows = multiplied(rows_back(plate), rows)
    return rows


def is_nought(rows):
    return all(number == 0 for row in rows for number in row)


class BacksTest(Case):

    def test_examples(self):
        self.gives((("polariser", (0, 0, -1, 1)), ("magnet", (1, 1)), ("turner", (1, 1, 1, -1))),
                   stack_back, (("turner", (1, 1, 1, 1)), MAGNET, RIGHT))
        self.gives("forth", ways, (ALONG, MAGNET, OVER))
        self.gives("both", ways, (ALONG, MAGNET))
        self.gives("none", ways, (ALONG, UPRIGHT))
        self.gives(False, returns, (ALONG, MAGNET))
        self.gives(False, returns, (ALONG, QUARTER))
        self.gives(True, returns, (ALONG,))
        self.gives(False, is_reciprocal, (ALONG, MAGNET))
        self.gives(True, is_reciprocal, (MAGNET, ("magnet", (-1, 1))))
        self.gives((0, 1, 0, 0), round_turn, (1, 1, 1, 1))

    def test_backs_of_plates(self):
        for plate, back in (
            (ALONG, ALONG), (RIGHT, LEFT), (("polariser", (2, 1, 2, 3)), ("polariser", (2, 1, -2, 3))),
            (("partial", (2, 1, 2, 3), (1, 2), (1, 3)), ("partial", (2, 1, -2, 3), (1, 2), (1, 3))),
            (("turner", (1, 2, 3, 4)), ("turner", (1, 2, 3, -4))), (("turner", (0, 0, 0, 1)), ("turner", (0, 0, 0, 1))),
            (("turner", (0, 0, 1, -2)), ("turner", (0, 0, 1, 2))), (("turner", (1, 0, 0, 0)), ("turner", (1, 0, 0, 0))),
            (("turner", (2, 0, 0, 3)), ("turner", (2, 0, 0, -3))), (MAGNET, MAGNET), (("magnet", (1, 0)), ("magnet", (1, 0))),
            (("grey", (1, 2)), ("grey", (1, 2))), (("dull", (0, 1)), ("dull", (0, 1))), (("glass",), ("glass",)),
            (("set", (1, 2), RIGHT), ("set", (1, 2), LEFT)), (("set", (-1, 3), MAGNET), ("set", (-1, 3), MAGNET)),
            (("set", (1, 0), ("turner", (0, 1, 0, 5))), ("set", (1, 0), ("turner", (0, 1, 0, -5)))),
            (("set", (0, 1), ("glass",)), ("set", (0, 1), ("glass",))),
        ):
            self.gives(back, plate_back, plate)
            self.gives((back,), stack_back, (plate,))

    def test_backs_of_drawn_plates(self):
        draw = Draw(1)
        for _ in range(150):
            plate = draw.plate()
            back = plate_back(plate)
            self.gives(back, plate_back, plate)
            self.assertTrue(is_plate(back))
            self.assertEqual(rows_of_plate(back), rows_back(plate), plate)
            self.assertEqual(rows_of_plate(plate_back(back)), rows_of_plate(plate))
        self.checks_arguments(plate_back, Argument("plate", RIGHT, InvalidPlate, WRONG_PLATES))

    def test_backs_of_stacks(self):
        draw = Draw(2)
        self.gives((), stack_back, ())
        for _ in range(40):
            stack = draw.stack()
            back = stack_back(stack)
            self.gives(tuple([plate_back(plate) for plate in reversed(stack)]), stack_back, stack)
            self.assertTrue(is_stack(back))
            self.assertEqual(rows_of_stack(back), rows_of_back(stack))
            self.assertEqual(rows_of_stack(stack_back(back)), rows_of_stack(stack))

    def check_stack(self, stack):
        """Check all that is told of a stack; the word for its ways."""
        forth, back = rows_of_stack(stack), rows_of_back(stack)
        around = multiplied(back, forth)
        words = {(True, True): "both", (True, False): "forth", (False, True): "back", (False, False): "none"}
        word = words[not is_nought(forth), not is_nought(back)]
        self.gives(word, ways, stack)
        self.gives(back == turned_back(forth), is_reciprocal, stack)
        self.gives(table_of_numbers(around), round_table, stack)
        self.gives(not is_nought(around), returns, stack)
        return word

    def test_drawn_stacks(self):
        draw, reciprocal = Draw(3), 0
        for _ in range(120):
            stack = draw.stack(4)
            self.check_stack(stack)
            if not any([has_magnet(plate) for plate in stack]):
                reciprocal += 1
                self.gives(True, is_reciprocal, stack)
                self.assertIn(ways(stack), ("both", "none"))
                i, q, u, v = led(rows_of_stack(stack), [1, 0, 0, 0])
                shut = (i, q, u, v) == (0, 0, 0, 0) or (q, u) == (0, 0) and v * v == i * i
                self.gives(not shut, returns, stack)
        self.assertGreater(reciprocal, 30)

    def test_ways(self):
        self.assertEqual(self.check_stack(()), "both")
        self.assertEqual(self.check_stack((ALONG, MAGNET, SLANT)), "forth")
        self.assertEqual(self.check_stack((SLANT, MAGNET, ALONG)), "back")
        self.assertEqual(self.check_stack((SLANT, ("magnet", (-1, 1)), ALONG)), "forth")
        for stack, word in (
            ((ALONG, ("magnet", (-1, 1)), ("polariser", (0, -1, 0, 1))), "forth"), ((UPRIGHT, MAGNET, SLANT), "back"),
            ((ALONG, ("set", (1, 3), MAGNET), SLANT), "forth"), ((UPRIGHT, ("set", (2, 1), MAGNET), SLANT), "back"),
            ((ALONG, UPRIGHT, MAGNET), "none"), ((ALONG, MAGNET, SLANT, ("grey", (1, 3)), ("dull", (1, 2))), "forth"),
            ((("grey", (0, 1)),), "none"), ((ALONG, ("magnet", (1, 2)), SLANT), "both"), ((RIGHT, LEFT), "none"),
            ((RIGHT, MAGNET, LEFT), "none"), ((RIGHT, RIGHT), "both"), ((MAGNET,) * 8, "both"),
            ((ALONG, ("magnet", (1, 0)), ALONG), "none"), ((("dull", (0, 1)), ALONG, MAGNET, SLANT), "forth"),
        ):
            self.assertEqual(self.check_stack(stack), word, stack)

    def test_what_returns(self):
        for stack, returned in (
            ((), True), ((ALONG,), True), ((ALONG, QUARTER), False), ((ALONG, ("turner", (1, 0, -1, 0))), False),
            ((ALONG, ("turner", (1, 1, 0, 0))), True), ((SLANT, ("turner", (1, 1, 0, 0))), False), ((RIGHT,), False),
            ((LEFT,), False), ((RIGHT, ("turner", (1, 1, 0, 0))), True), ((ALONG, MAGNET), False), ((SLANT, MAGNET), False),
            ((RIGHT, MAGNET), False), ((MAGNET,), True), ((ALONG, ("magnet", (1, 2))), True), ((ALONG, UPRIGHT), False),
            ((("grey", (0, 1)),), False), ((("dull", (0, 1)),), True), ((ALONG, ("glass",), QUARTER), False),
            ((("glass",),), True), ((RIGHT, ("glass",)), False), ((ALONG, ("set", (1, 2), MAGNET)), False),
            ((("partial", (0, 0, 1, 1), (1, 1), (1, 2)),), True), ((ALONG, ("turner", (1, 0, 1, 0)), ("dull", (1, 2))), True),
        ):
            self.gives(returned, returns, stack)
            self.check_stack(stack)

    def test_what_is_reciprocal(self):
        for stack, told in (
            ((), True), ((MAGNET,), False), ((("magnet", (1, 0)),), True), ((("magnet", (0, 1)),), True),
            ((("magnet", (1, 2)), ("magnet", (-1, 2))), True), ((RIGHT, MAGNET), True), ((("set", (1, 2), MAGNET),), False),
            ((("dull", (0, 1)), MAGNET), True), ((ALONG, MAGNET, UPRIGHT), True), ((MAGNET, MAGNET), True),
            ((("glass",), MAGNET), False), ((ALONG, UPRIGHT, MAGNET), True), ((ALONG, MAGNET, SLANT), False),
        ):
            self.gives(told, is_reciprocal, stack)
            self.check_stack(stack)

    def test_round_tables(self):
        self.gives(UNIT, round_table, ())
        self.gives(UNIT, round_table, (("glass",),))
        self.gives((((1, 1, 0, 0), (1, 1, 0, 0), (0, 0, 0, 0), (0, 0, 0, 0)), 2), round_table, (ALONG,))
        self.gives((((1, 0, 0, 0), (0, -1, 0, 0), (0, 0, -1, 0), (0, 0, 0, 1)), 1), round_table, (MAGNET,))
        self.assertNotEqual(round_table((MAGNET, ("glass",))), GLASS)

    def test_round_turns(self):
        draw = Draw(4)
        turns = [(1, 0, 0, 0), (0, 1, 0, 0), (0, 0, 0, 1), (1, 0, 0, 1), (1, 1, 1, 1), (0, 0, 1, 2), (1, -1, 1, -1)]
        for turn in turns + [draw.turn() for _ in range(60)]:
            told = round_turn(turn)
            self.gives(told, round_turn, turn)
            self.assertTrue(is_turn(told))
            self.assertEqual(told[3], 0)
            self.assertEqual(told, turn_of_table(round_table((("turner", turn),))))
            # A magnet behind the turners leaves a half turn about V, whatever they are.
            with_magnet = round_table((("turner", turn), MAGNET))
            self.assertEqual(turn_of_table(with_magnet), (0, 0, 0, 1))
        self.gives((1, 0, 0, 0), round_turn, (1, 0, 0, 0))
        self.gives((1, 0, 0, 0), round_turn, (0, 0, 0, 1))
        self.gives((1, 0, 0, 0), round_turn, (0, 1, 0, 0))
        self.gives((0, 1, 0, 0), round_turn, (1, 1, 0, 0))
        self.checks_arguments(round_turn, Argument("turn", (1, 2, 3, 4), InvalidTurn, WRONG_TURNS))

    def test_wrong_stacks(self):
        indexed = wrong_lists(ALONG, WRONG_PLATES, 8)
        for function in (stack_back, is_reciprocal, ways, round_table, returns):
            self.checks_arguments(function, Argument("stack", (ALONG, MAGNET, SLANT), InvalidStack, (), indexed))


if __name__ == "__main__":
    unittest.main()
