"""The helper of points [20], [29] and [35]: ranks of rows, and numbers that keep linear equations."""

import unittest
from fractions import Fraction

from platelights.equations import rank_of, solution_of
from tests import reckon
from tests.cases import Case
from tests.values import BIG, Draw


class EquationsTest(Case):

    def test_ranks(self):
        draw = Draw(1)
        for _ in range(300):
            many, width = draw.chance.randint(1, 6), draw.chance.randint(1, 6)
            rows = [draw.row(width, 1) for _ in range(many)]
            self.assertEqual(rank_of(rows), reckon.rank(rows))
        self.assertEqual(rank_of([]), 0)
        self.assertEqual(rank_of([(0, 0), (0, 0)]), 0)
        self.assertEqual(rank_of([(BIG, BIG + 1), (BIG + 1, BIG + 2)]), 2)
        self.assertEqual(rank_of([(BIG, 2 * BIG), (BIG + 1, 2 * BIG + 2)]), 1)

    def test_solutions(self):
        draw, seen = Draw(2), {True: 0, False: 0}
        for _ in range(400):
            many, width = draw.chance.randint(1, 5), draw.chance.randint(1, 5)
            rows, numbers = [draw.row(width, 2) for _ in range(many)], draw.row(many, 2)
            told = solution_of(rows, numbers)
            has_one = reckon.rank([row + (number,) for row, number in zip(rows, numbers)]) == reckon.rank(rows)
            seen[has_one] += 1
            self.assertEqual(told is not None, has_one)
            if has_one:
                self.assertGreater(told[1], 0)
                found = [Fraction(number, told[1]) for number in told[0]]
                self.assertEqual(reckon.led(rows, found), list(numbers))
        self.assertGreater(min(seen.values()), 50)


if __name__ == "__main__":
    unittest.main()
