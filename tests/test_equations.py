"""The helper of points [20], [29], [35], [44] and [51]: ranks of rows, linear equations, and what shows them odd."""

import unittest
from fractions import Fraction

from platelights.equations import null_rows, odd_weights, rank_of, solution_of, weights_to
from tests import reckon
from tests.cases import Case
from tests.values import BIG, Draw


class EquationsTest(Case):

    def test_ranks(self):
        draw = Draw(1)
        for _ in range(300):
            many, width = draw.chance.randint(1, 6), draw.chance.randint(1, 6)
            rows = [draw.row(width, 1) for _ in range(many)]
            self.assertEqual(rank_of(rows), reckon.rank(rows))
        self.assertEqual(rank_of([]), 0)
        self.assertEqual(rank_of([(0, 0), (0, 0)]), 0)
        self.assertEqual(rank_of([(BIG, BIG + 1), (BIG + 1, BIG + 2)]), 2)
        self.assertEqual(rank_of([(BIG, 2 * BIG), (BIG + 1, 2 * BIG + 2)]), 1)

    def test_solutions(self):
        draw, seen = Draw(2), {True: 0, False: 0}
        for _ in range(400):
            many, width = draw.chance.randint(1, 5), draw.chance.randint(1, 5)
            rows, numbers = [draw.row(width, 2) for _ in range(many)], draw.row(many, 2)
            told = solution_of(rows, numbers)
            has_one = reckon.rank([row + (number,) for row, number in zip(rows, numbers)]) == reckon.rank(rows)
            seen[has_one] += 1
            self.assertEqual(told is not None, has_one)
            if has_one:
                self.assertGreater(told[1], 0)
                found = [Fraction(number, told[1]) for number in told[0]]
                self.assertEqual(reckon.led(rows, found), list(numbers))
        self.assertGreater(min(seen.values()), 50)

    def test_null_rows(self):
        draw = Draw(3)
        for _ in range(200):
            many, width = draw.chance.randint(1, 5), draw.chance.randint(1, 5)
            rows = [draw.row(width, 1) for _ in range(many)]
            told = null_rows(rows, width)
            self.assertEqual((len(told), reckon.rank(told)), (width - reckon.rank(rows),) * 2)
            for null in told:
                self.assertEqual(reckon.led(rows, null), [0] * many)
        self.assertEqual(null_rows([], 2), [(1, 0), (0, 1)])
        self.assertEqual(null_rows([(0, 0)], 2), [(1, 0), (0, 1)])
        self.assertEqual(null_rows([(BIG, 2 * BIG)], 2), [(-2, 1)])

    def test_odd_weights(self):
        draw, odd = Draw(4), 0
        for _ in range(300):
            many, width = draw.chance.randint(1, 5), draw.chance.randint(1, 4)
            rows, numbers = [draw.row(width, 1) for _ in range(many)], draw.row(many, 1)
            told = odd_weights(rows, numbers)
            self.assertEqual(told is None, solution_of(rows, numbers) is not None)
            if told is not None:
                odd += 1
                self.assertEqual(len(told), many)
                columns = [[row[at] for row in rows] for at in range(width)]
                self.assertEqual(reckon.led(columns, told), [0] * width)
                self.assertNotEqual(reckon.dot(told, numbers), 0)
        self.assertGreater(odd, 80)

    def test_weights_to_a_row(self):
        draw, seen = Draw(5), {True: 0, False: 0}
        for _ in range(200):
            many, width = draw.chance.randint(1, 5), draw.chance.randint(1, 4)
            rows, target = [draw.row(width, 1) for _ in range(many)], draw.row(width, 2)
            told = weights_to(rows, target)
            is_sum = reckon.rank([*rows, target]) == reckon.rank(rows)
            seen[is_sum] += 1
            self.assertEqual(told is not None, is_sum)
            if is_sum:
                self.assertGreater(told[1], 0)
                columns = [[row[at] for row in rows] for at in range(width)]
                self.assertEqual(reckon.led(columns, told[0]), [told[1] * number for number in target])
        self.assertGreater(min(seen.values()), 40)


if __name__ == "__main__":
    unittest.main()
