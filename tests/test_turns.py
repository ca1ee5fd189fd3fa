"""Points [12], [21] and [22] and platelights/turns.py: turns, their orders, and half, linear and round ones."""

import unittest
from fractions import Fraction
from math import isqrt

from platelights.errors import InvalidKind, InvalidLight, InvalidNumber, InvalidNumbers, InvalidSetting, InvalidTable
from platelights.errors import InvalidTurn
from platelights.lights import is_kind, is_light
from platelights.turns import is_turn, joined_turns, kept_kinds, linear_and_round, turn_about, turn_along, turn_back
from platelights.turns import turn_cosine, turn_of_table, turn_order, turn_times, turned_kind, turned_light, two_halves
from tests import reckon
from tests.cases import NO_WHOLES, STRANGE, Argument, Case, wrong_rows
from tests.reckon import numbers_of, pair_of, row_of, rows_of_turn, table_of_numbers
from tests.values import BIG, GLASS, NOUGHT, UNIT, WRONG_KINDS, WRONG_LIGHTS, WRONG_SETTINGS, WRONG_TABLES, WRONG_TURNS
from tests.values import Draw, reduced

STILL, CYCLE = (1, 0, 0, 0), (1, 1, 1, 1)
EDGES = (
    STILL, (0, 1, 0, 0), (0, 0, 1, 0), (0, 0, 0, 1), CYCLE, (1, 1, 0, 0), (1, 0, 0, -1), (0, 1, -1, 0), (0, 3, 4, 0),
    (1, 2, 1, 2), (2, 1, 0, 0), (3, 1, 1, 1), (3, -1, 1, -1), (0, 0, 1, -5), (1, 0, 0, BIG), (BIG, 1, 0, 0),
    (0, 1, 0, 2), (2, 0, 0, 3), (2, 0, 3, 0), (1, -2, 3, -4), (0, 2, -1, 2), (0, 1, 1, 1),
)


def some_turns(seed, many):
    draw = Draw(seed)
    return list(EDGES) + [draw.turn() for _ in range(many)]


def signed(row):
    """A row with its first number that is not 0 above 0, reduced."""
    row = reduced(row)
    first = [number for number in row if number != 0][0]
    return row if first > 0 else tuple([-number for number in row])


def size_of(turn):
    """The sum of the squares of the last three numbers."""
    return sum(number * number for number in turn[1:])


class TurnsTest(Case):

    def test_what_is_a_turn(self):
        for turn in some_turns(1, 20):
            self.gives(True, is_turn, turn)
        for number, value in enumerate(WRONG_TURNS):
            with self.subTest(number=number):
                self.gives(False, is_turn, value)

    def test_examples(self):
        self.gives((1, 1, 0, 0), turn_about, (1, 0, 0, 1), (1, 1))
        self.gives(CYCLE, joined_turns, (1, 1, 0, 0), (1, 0, 0, 1))
        self.gives((1, -1, -1, -1), turn_back, CYCLE)
        self.gives((0, 1, 1, 0), turn_back, (0, 1, 1, 0))
        self.gives((0, 1, 0, 0), turn_times, (1, 1, 0, 0), 2)
        self.gives((-1, 2), turn_cosine, CYCLE)
        self.gives((0, 0, 1, 1), turned_kind, (0, 1, 0, 1), (1, 1, 0, 0))
        self.gives((2, 0, 1, 1, 3), turned_light, (2, 1, 0, 1, 3), (1, 0, 0, 1))
        for turn, order in ((CYCLE, 3), ((1, 0, 1, 0), 4), ((3, 1, 1, 1), 6), ((2, 1, 0, 0), None)):
            self.gives(order, turn_order, turn)
        self.gives(((2, 1, 2, 3), (-2, -1, -2, 3)), kept_kinds, (1, 2, 1, 2))
        self.gives((), kept_kinds, (1, 1, 1, 0))
        self.gives(((1, 1, 0, 0), (1, 0, 0, 1)), linear_and_round, CYCLE)
        rows = ((1, 0, 0, 0), (0, 0, 0, 1), (0, 1, 0, 0), (0, 0, 1, 0))
        self.gives(CYCLE, turn_of_table, (rows, 1))
        first, then = two_halves((1, 2, 3, 4))
        self.assertEqual((joined_turns(first, then), first[0], then[0]), ((1, 2, 3, 4), 0, 0))

    def test_turn_along(self):
        for turn in some_turns(2, 20):
            for many in (1, -1, 2, -6, BIG):
                self.gives(turn, turn_along, tuple([many * number for number in turn]))
        self.gives((0, 1, -2, 0), turn_along, (0, -3, 6, 0))
        self.gives((0, 0, 0, 1), turn_along, (0, 0, 0, -9))
        wrong = list(STRANGE) + wrong_rows((1, 2, 3, 4)) + [0, (0, 0, 0, 0), (1, 0, 0), (1, 0, 0, 0, 0)]
        self.checks_arguments(turn_along, Argument("numbers", (2, 4, 0, 0), InvalidNumbers, wrong))

    def test_turn_about(self):
        draw = Draw(3)
        for _ in range(40):
            (q, u, v, n), (a, b) = draw.kind(), draw.setting()
            turn = turn_about((q, u, v, n), (a, b))
            self.gives(turn, turn_about, (q, u, v, n), (a, b))
            self.assertEqual(turn, signed((b * n, a * q, a * u, a * v)))
            self.assertEqual(turned_kind((q, u, v, n), turn), (q, u, v, n))
            # The cosine of twice the angle of which the tangent is a / b.
            self.assertEqual(turn_cosine(turn), pair_of(Fraction(b * b - a * a, a * a + b * b)))
        self.gives((0, 2, 1, 2), turn_about, (-2, -1, -2, 3), (1, 0))
        self.gives(STILL, turn_about, (2, 1, 2, 3), (0, 1))
        self.gives((1, 0, 0, -1), turn_about, (0, 0, 1, 1), (-1, 1))
        self.gives((6, -2, -1, -2), turn_about, (2, 1, 2, 3), (-1, 2))

    def test_wrong_arguments_of_turn_about(self):
        self.checks_arguments(
            turn_about,
            Argument("kind", (2, 1, 2, 3), InvalidKind, WRONG_KINDS),
            Argument("setting", (1, 2), InvalidSetting, WRONG_SETTINGS),
        )

    def test_turned_lights_and_kinds(self):
        draw = Draw(4)
        for turn in some_turns(5, 25):
            rows = rows_of_turn(turn)
            for light in ((0, 0, 0, 0, 1), (2, 0, 0, 0, 3), draw.light(), draw.light(), draw.pure()):
                self.gives(row_of(reckon.led(rows, numbers_of(light))), turned_light, light, turn)
                self.assertTrue(is_light(turned_light(light, turn)))
            for kind in ((0, 0, -1, 1), (1, 0, 0, 1), draw.kind()):
                told = turned_kind(kind, turn)
                self.gives(told, turned_kind, kind, turn)
                self.assertTrue(is_kind(told))
                place = [Fraction(number, kind[3]) for number in kind[:3]]
                self.assertEqual([Fraction(number, told[3]) for number in told[:3]], reckon.led(rows, [1] + place)[1:])

    def test_wrong_arguments_of_turned_lights_and_kinds(self):
        self.checks_arguments(
            turned_light,
            Argument("light", (2, 1, 0, 1, 3), InvalidLight, WRONG_LIGHTS),
            Argument("turn", CYCLE, InvalidTurn, WRONG_TURNS),
        )
        self.checks_arguments(
            turned_kind,
            Argument("kind", (2, 1, 2, 3), InvalidKind, WRONG_KINDS),
            Argument("turn", CYCLE, InvalidTurn, WRONG_TURNS),
        )

    def test_joined_turns_do_one_after_the_other(self):
        light = (9, 2, 3, 5, 4)
        unlike = 0
        for turn in some_turns(6, 12):
            for other in some_turns(7, 12):
                both = joined_turns(turn, other)
                self.assertTrue(is_turn(both))
                self.assertEqual(turned_light(light, both), turned_light(turned_light(light, turn), other))
                self.assertEqual(rows_of_turn(both), reckon.multiplied(rows_of_turn(other), rows_of_turn(turn)))
                unlike += both != joined_turns(other, turn)
        self.assertGreater(unlike, 500)
        self.gives((1, 1, -1, 1), joined_turns, (1, 0, 0, 1), (1, 1, 0, 0))

    def test_turns_back(self):
        for turn in some_turns(8, 20):
            back = turn_back(turn)
            self.gives(signed((turn[0], -turn[1], -turn[2], -turn[3])), turn_back, turn)
            self.assertEqual(joined_turns(turn, back), STILL)
            self.assertEqual(joined_turns(back, turn), STILL)

    def test_turn_times(self):
        for turn in some_turns(9, 10):
            whole = STILL
            for many in range(25):
                self.gives(whole, turn_times, turn, many)
                whole = joined_turns(whole, turn)

    def test_wrong_arguments_of_joining(self):
        self.checks_arguments(
            joined_turns,
            Argument("turn", CYCLE, InvalidTurn, WRONG_TURNS),
            Argument("other", (1, 0, 1, 0), InvalidTurn, WRONG_TURNS),
        )
        self.checks_arguments(
            turn_times,
            Argument("turn", CYCLE, InvalidTurn, WRONG_TURNS),
            Argument("many", 24, InvalidNumber, NO_WHOLES + (-1, 25, BIG, -BIG)),
        )
        for function in (turn_back, turn_cosine, turn_order, kept_kinds, two_halves, linear_and_round):
            self.checks_arguments(function, Argument("turn", CYCLE, InvalidTurn, WRONG_TURNS))

    def test_turn_cosine(self):
        for turn in some_turns(10, 30):
            rows = rows_of_turn(turn)
            # The sum of the diagonal of the three rows is 1 + 2 cosines.
            trace = rows[1][1] + rows[2][2] + rows[3][3]
            self.gives(pair_of((trace - 1) / 2), turn_cosine, turn)
        for turn, cosine in ((STILL, (1, 1)), ((0, 1, 2, 3), (-1, 1)), ((1, 0, 1, 0), (0, 1)), ((3, 1, 1, 1), (1, 2))):
            self.gives(cosine, turn_cosine, turn)

    def test_turn_order_by_joining(self):
        for turn in some_turns(11, 80) + [(1, 1, 1, 0), (1, 0, 0, 1), (3, 3, 1, 1), (3, 1, 1, 5)]:
            whole, found = STILL, None
            for many in range(1, 25):
                whole = joined_turns(whole, turn)
                if whole == STILL:
                    found = many
                    break
            self.gives(found, turn_order, turn)

    def test_turn_orders_that_there_are(self):
        for turn, order in (
            (STILL, 1), ((0, 1, 0, 0), 2), ((0, 3, -7, BIG), 2), ((1, -1, 1, 1), 3), ((1, 1, 1, -1), 3), ((1, 0, 0, -1), 4),
            ((5, 3, 4, 0), 4), ((3, 2, 1, 2), 4), ((3, -1, -1, 1), 6), ((9, 5, 1, 1), 6), ((3, 5, 1, 1), 3),
            ((1, 1, 1, 0), None), ((1, 2, 0, 0), None), ((BIG, BIG + 1, 0, 0), None), ((3, 3, 3, 1), None),
            ((1, 0, 1, 1), None), ((1000, 1001, 0, 0), None), ((BIG, 1, 0, 0), None),
        ):
            self.gives(order, turn_order, turn)

    def test_kept_kinds(self):
        self.gives("all", kept_kinds, STILL)
        seen = {True: 0, False: 0}
        for turn in [turn for turn in some_turns(12, 60) if turn != STILL] + [(7, 2, 3, 6), (0, 0, 0, 1), (1, 0, 0, -BIG)]:
            size = size_of(turn)
            square = isqrt(size) ** 2 == size
            seen[square] += 1
            if not square:
                self.gives((), kept_kinds, turn)
                continue
            kind = reduced(turn[1:] + (isqrt(size),))
            self.gives((kind, (-kind[0], -kind[1], -kind[2], kind[3])), kept_kinds, turn)
            for kept in kept_kinds(turn):
                self.assertTrue(is_kind(kept))
                self.assertEqual(turned_kind(kept, turn), kept)
        self.assertGreater(min(seen.values()), 10)
        self.gives(((0, 0, -1, 1), (0, 0, 1, 1)), kept_kinds, (1, 0, 0, -4))

    def test_turn_of_table(self):
        for turn in some_turns(13, 40):
            self.gives(turn, turn_of_table, table_of_numbers(rows_of_turn(turn)))

    def test_tables_without_a_turn(self):
        draw = Draw(14)
        for turn in some_turns(15, 15):
            rows = rows_of_turn(turn)
            glass = reckon.multiplied(reckon.diagonal(1, 1, 1, -1), rows)
            against = reckon.multiplied(reckon.diagonal(1, -1, -1, -1), rows)
            dull = reckon.multiplied(reckon.diagonal(1, Fraction(1, 2), Fraction(1, 2), Fraction(1, 2)), rows)
            grey = [[number / 2 for number in row] for row in rows]
            minus = [[-number for number in row] for row in rows]
            for wrong in (glass, against, dull, grey, minus):
                self.gives(None, turn_of_table, table_of_numbers(wrong))
            for at, place in ((0, 0), (0, 1), (1, 0), (2, 3), (3, 3), (1, 2)):
                other = [list(row) for row in rows]
                other[at][place] += Fraction(1, 7)
                self.gives(None, turn_of_table, table_of_numbers(other))
        for table in (NOUGHT, GLASS) + tuple([draw.table() for _ in range(100)]):
            self.gives(None, turn_of_table, table)
        self.gives(STILL, turn_of_table, UNIT)

    def test_wrong_arguments_of_turn_of_table(self):
        self.checks_arguments(turn_of_table, Argument("table", UNIT, InvalidTable, WRONG_TABLES))

    def test_two_halves(self):
        for turn in some_turns(16, 60):
            told = two_halves(turn)
            self.gives(told, two_halves, turn)
            first, then = told
            self.assertTrue(is_turn(first) and is_turn(then))
            self.assertEqual((first[0], then[0]), (0, 0))
            self.assertEqual(joined_turns(first, then), turn)

    def test_linear_and_round(self):
        for turn in some_turns(17, 60):
            told = linear_and_round(turn)
            self.gives(told, linear_and_round, turn)
            linear, around = told
            self.assertTrue(is_turn(linear) and is_turn(around))
            self.assertEqual(linear[3], 0)
            self.assertEqual(around[1:3], (0, 0))
            self.assertEqual(joined_turns(linear, around), turn)
            if turn[0] == 0 and turn[3] == 0:
                self.assertEqual(told, (turn, STILL))
            else:
                a, b, c, d = turn
                self.assertEqual(linear, signed((a * a + d * d, a * b + c * d, a * c - b * d, 0)))
                self.assertEqual(around, signed((a, 0, 0, d)))

    def test_linear_and_round_turns_where_they_are_parted(self):
        self.gives(((2, 1, 3, 0), STILL), linear_and_round, (2, 1, 3, 0))
        self.gives(((0, 1, 3, 0), STILL), linear_and_round, (0, 1, 3, 0))
        self.gives((STILL, (2, 0, 0, -3)), linear_and_round, (2, 0, 0, -3))
        self.gives((STILL, (0, 0, 0, 1)), linear_and_round, (0, 0, 0, 1))
        self.gives((STILL, STILL), linear_and_round, STILL)
        self.gives(((1, 1, -1, 0), (0, 0, 0, 1)), linear_and_round, (0, 1, 1, 1))


if __name__ == "__main__":
    unittest.main()
