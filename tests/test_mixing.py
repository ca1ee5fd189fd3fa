"""Point [51] and platelights/mixing.py: lights mixed of told ones, and rows that part others from them."""

import unittest
from fractions import Fraction
from itertools import combinations

from platelights.errors import InvalidIndex, InvalidLight, InvalidLights
from platelights.mixing import fewest_lights, mixture, needless, parting_row, reach_the_same, weight_range
from tests.cases import NO_WHOLES, PRICKLY, Argument, Case
from tests.reckon import dot, numbers_of, pair_of, rank, row_of, worth
from tests.values import BIG, LAMP, WRONG_LIGHTS, Draw, wrong_lists

DARK, PLAIN, BRIGHT = (0, 0, 0, 0, 1), (1, 0, 0, 0, 1), (2, 0, 0, 0, 1)
EAST, WEST, NORTH, SOUTH = (1, 1, 0, 0, 1), (1, -1, 0, 0, 1), (1, 0, 1, 0, 1), (1, 0, -1, 0, 1)
UP, DOWN = (1, 0, 0, 1, 1), (1, 0, 0, -1, 1)
TINY = Fraction(1, BIG)


def mixed(lights, weights):
    """The four numbers of lights times weights, added."""
    return [sum(weight * numbers_of(light)[at] for light, weight in zip(lights, weights)) for at in range(4)]


def shown_as_mixture(lights, light, weights):
    """Whether weights show that a light is a mixture."""
    if type(weights) is not tuple or len(weights) != len(lights) or min(worth(weight) for weight in weights) < 0:
        return False
    return mixed(lights, [worth(weight) for weight in weights]) == numbers_of(light)


def shown_as_none(lights, light, row):
    """Whether a row shows that a light is no mixture."""
    if type(row) is not tuple or len(row) != 4 or any(type(number) is not int for number in row):
        return False
    return min(dot(row, numbers_of(one)) for one in lights) >= 0 and dot(row, numbers_of(light)) < 0


class MixingTest(Case):

    def test_examples(self):
        self.gives(((1, 2), (1, 2)), mixture, (EAST, WEST), PLAIN)
        self.gives(None, mixture, (EAST, WEST), NORTH)
        self.gives((3,), fewest_lights, (EAST, WEST, NORTH, PLAIN), BRIGHT)
        self.gives((2,), needless, (EAST, WEST, PLAIN))
        self.gives(((0, 1), (1, 2)), weight_range, (EAST, WEST, PLAIN), PLAIN, 0)

    def check(self, lights, light):
        """Check that either weights or a row is told of a light, and that it shows what is told."""
        weights, row = mixture(lights, light), parting_row(lights, light)
        self.gives(weights, mixture, lights, light)
        self.gives(row, parting_row, lights, light)
        self.assertNotEqual(weights is None, row is None)
        if weights is None:
            self.assertTrue(shown_as_none(lights, light, row), (lights, light, row))
            self.gives(None, fewest_lights, lights, light)
            for index in range(len(lights)):
                self.gives(None, weight_range, lights, light, index)
            return False
        self.assertTrue(shown_as_mixture(lights, light, weights), (lights, light, weights))
        self.check_fewest(lights, light)
        return True

    def check_fewest(self, lights, light):
        """Check that no tuple of indexes before the told one does, and that this one does."""
        told = fewest_lights(lights, light)
        self.gives(told, fewest_lights, lights, light)
        self.assertLessEqual(len(told), 4)
        for many in range(1, len(told) + 1):
            for chosen in combinations(range(len(lights)), many):
                some = tuple([lights[at] for at in chosen])
                if chosen == told:
                    self.assertTrue(shown_as_mixture(some, light, mixture(some, light)))
                    return
                self.assertTrue(shown_as_none(some, light, parting_row(some, light)))
        self.fail("no tuple of indexes that is ascending")

    def some_lights(self, draw):
        """One to eight lights of small numbers, at times equal or dark."""
        sort = draw.chance.randint(0, 3)
        lights = [draw.pure(2) if sort == 0 else draw.light(2) for _ in range(draw.chance.randint(1, 8))]
        if sort == 1:
            lights = [draw.chance.choice((EAST, WEST, NORTH, SOUTH, UP, DOWN, PLAIN, DARK, BRIGHT)) for _ in lights]
        if sort == 2:
            lights[draw.chance.randrange(len(lights))] = draw.chance.choice((DARK, lights[0]))
        return tuple(lights)

    def test_mixtures_by_chance(self):
        draw, seen = Draw(1), {True: 0, False: 0}
        for _ in range(60):
            lights = self.some_lights(draw)
            parts = [Fraction(draw.chance.randint(0, 3), draw.chance.randint(1, 4)) for _ in lights]
            self.assertTrue(self.check(lights, row_of(mixed(lights, parts))))
            for light in (draw.light(2), draw.chance.choice((EAST, NORTH, UP, PLAIN))):
                seen[self.check(lights, light)] += 1
        self.assertGreater(min(seen.values()), 30)

    def test_edges_of_mixtures(self):
        eight = (EAST, WEST, NORTH, SOUTH, UP, DOWN, PLAIN, DARK)
        for lights, light, told in (
            ((EAST,), EAST, True), ((EAST,), (3, 3, 0, 0, 7), True), ((EAST,), DARK, True), ((DARK,), DARK, True),
            ((DARK,), EAST, False),
            ((EAST,), PLAIN, False), ((PLAIN,), EAST, False), ((EAST, EAST), EAST, True), ((EAST, EAST), WEST, False),
            (eight, LAMP, True),
            ((DARK, DARK), PLAIN, False), ((DARK, EAST, WEST), BRIGHT, True), (eight, DARK, True),
            (eight, (5, 3, 4, 0, 5), False),
            ((EAST, NORTH), (2, 1, 1, 0, 1), True), ((EAST, NORTH), (3, 1, 1, 0, 1), False),
            ((EAST, WEST, NORTH), SOUTH, False),
            ((EAST, WEST, NORTH, SOUTH), UP, False), ((EAST, WEST, NORTH, SOUTH), (2, 1, 1, 0, 1), True),
        ):
            self.assertEqual(self.check(lights, light), told)

    def test_lights_at_the_very_edge(self):
        # On the face of east and north it is a mixture, and no longer ever so little beyond it.
        face = [Fraction(3, 4), Fraction(1, 2), Fraction(1, 4), Fraction(0)]
        for lights in ((EAST, NORTH), (EAST, NORTH, WEST), (EAST, NORTH, PLAIN), (UP, NORTH, DOWN, EAST, SOUTH)):
            self.assertTrue(self.check(lights, row_of(face)))
            self.assertFalse(self.check(lights, row_of([face[0] - TINY, *face[1:]])))
        self.assertTrue(self.check((UP, DOWN, EAST, NORTH), row_of([face[0] + TINY, *face[1:3], TINY])))
        self.assertFalse(self.check((EAST, NORTH, UP), row_of([*face[:3], TINY])))
        self.assertFalse(self.check((EAST, NORTH, UP), row_of([face[0] + TINY, *face[1:]])))
        self.assertTrue(self.check((EAST, NORTH, UP), row_of([face[0] + TINY, *face[1:3], TINY])))

    def test_fewest_lights(self):
        for lights, light, told in (
            ((EAST, WEST, NORTH, SOUTH), PLAIN, (0, 1)), ((NORTH, EAST, WEST, SOUTH), PLAIN, (0, 3)),
            ((EAST, PLAIN, PLAIN), BRIGHT, (1,)),
            ((NORTH, EAST, SOUTH, WEST, UP, DOWN), (4, 0, 0, 0, 3), (0, 2)), ((DARK, EAST), DARK, (0,)),
            ((EAST, DARK), DARK, (0,)),
            ((DARK, EAST), EAST, (1,)), ((EAST, WEST, NORTH), (3, 1, 1, 0, 1), (0, 1, 2)),
            ((EAST, WEST, UP, NORTH), (4, 1, 1, 1, 1), (0, 1, 2, 3)),
            ((DARK, DARK, EAST, EAST), (2, 2, 0, 0, 1), (2,)),
            ((EAST, NORTH, UP, DOWN, SOUTH, WEST, DARK), (2, 0, 0, 1, 1), (2, 3)),
            ((PLAIN, EAST, WEST), (3, 1, 0, 0, 1), (0, 1)), ((WEST, EAST, PLAIN), (3, 1, 0, 0, 1), (0, 1)),
            ((EAST,), NORTH, None),
        ):
            self.gives(told, fewest_lights, lights, light)

    def least_and_greatest(self, lights, light, index):
        """The ends of a weight, over all mixtures of lights of which none is one of the others, by steps of Gauss."""
        seen = []
        for many in range(0, 5):
            for chosen in combinations(range(len(lights)), many):
                rows = [numbers_of(lights[at]) for at in chosen]
                if rank(rows) != many or rank(rows + [numbers_of(light)]) != many:
                    continue
                weights = self.solved(rows, numbers_of(light))
                if min(weights + [0]) >= 0:
                    seen.append(weights[chosen.index(index)] if index in chosen else Fraction(0))
        return (pair_of(min(seen)), pair_of(max(seen)))

    def solved(self, rows, target):
        """The weights by which rows, none a sum of the others, add up to a target, by Cramer's rule for products."""
        products = [[dot(one, two) for two in rows] for one in rows]
        beside = [dot(row, target) for row in rows]
        whole = self.determinant(products)
        return [
            self.determinant([[beside[row] if place == at else products[row][place] for place in range(len(rows))]
                              for row in range(len(rows))]) / whole
            for at in range(len(rows))
        ]

    def determinant(self, rows):
        if not rows:
            return Fraction(1)
        return sum(
            (-1) ** at * entry * self.determinant([row[:at] + row[at + 1:] for row in rows[1:]]) for at, entry in enumerate(rows[0])
        )

    def test_ranges_of_weights(self):
        draw, wide = Draw(2), 0
        for _ in range(40):
            lights = self.some_lights(draw)[:6]
            parts = [Fraction(draw.chance.randint(0, 3), draw.chance.randint(1, 4)) for _ in lights]
            light = row_of(mixed(lights, parts))
            for index, own in enumerate(lights):
                told = weight_range(lights, light, index)
                self.gives(told, weight_range, lights, light, index)
                if own == DARK:
                    self.assertIsNone(told)
                    continue
                self.assertEqual(told, self.least_and_greatest(lights, light, index))
                least, greatest = worth(told[0]), worth(told[1])
                self.assertTrue(0 <= least <= parts[index] <= greatest)
                wide += least < greatest
                # At each end the others make up the rest; ever so little beyond it none do.
                for weight, lasts in ((least, True), (greatest, True), (greatest + TINY, False), (least - TINY, False)):
                    if weight >= 0:
                        rest = [one - weight * two for one, two in zip(numbers_of(light), numbers_of(own))]
                        self.check_rest(lights[:index] + lights[index + 1:], rest, lasts)
        self.assertGreater(wide, 40)

    def check_rest(self, others, rest, lasts):
        """Check whether four numbers, a light or not, are mixed of other lights."""
        is_light = rest[0] >= 0 and rest[0] ** 2 >= dot(rest[1:], rest[1:])
        if not is_light or not others:
            self.assertEqual(lasts, not any(rest))
            return
        self.assertEqual(mixture(others, row_of(rest)) is not None, lasts)

    def test_edges_of_weights(self):
        for lights, light, index, told in (
            ((EAST,), EAST, 0, ((1, 1), (1, 1))), ((EAST,), (1, 1, 0, 0, 3), 0, ((1, 3), (1, 3))),
            ((EAST,), WEST, 0, None),
            ((DARK,), DARK, 0, None), ((DARK,), EAST, 0, None), ((DARK, EAST), EAST, 0, None),
            ((DARK, EAST), EAST, 1, ((1, 1), (1, 1))),
            ((EAST, DARK), DARK, 0, ((0, 1), (0, 1))), ((EAST, EAST), EAST, 0, ((0, 1), (1, 1))),
            ((EAST, EAST, EAST), EAST, 2, ((0, 1), (1, 1))),
            ((EAST, WEST, PLAIN), PLAIN, 2, ((0, 1), (1, 1))),
            ((EAST, WEST, PLAIN), (3, 1, 0, 0, 1), 0, ((1, 1), (2, 1))),
            ((EAST, WEST, PLAIN), (3, 1, 0, 0, 1), 1, ((0, 1), (1, 1))),
            ((EAST, WEST, BRIGHT), (3, 1, 0, 0, 1), 2, ((0, 1), (1, 1))),
            ((EAST, WEST, NORTH, SOUTH), BRIGHT, 3, ((0, 1), (1, 1))),
            ((EAST, WEST, NORTH, SOUTH), (3, 1, 0, 0, 1), 0, ((1, 1), (2, 1))),
            ((EAST, WEST, NORTH, SOUTH), (3, 1, 0, 0, 1), 2, ((0, 1), (1, 1))),
            ((EAST, WEST, NORTH), (3, 1, 1, 0, 1), 2, ((1, 1), (1, 1))),
            ((PLAIN,) * 8, PLAIN, 7, ((0, 1), (1, 1))), ((EAST, WEST, DARK), PLAIN, 2, None),
            ((EAST, WEST, DARK), NORTH, 2, None),
        ):
            self.gives(told, weight_range, lights, light, index)

    def test_needless_lights(self):
        draw, many = Draw(3), 0
        for _ in range(50):
            lights = self.some_lights(draw)
            told = []
            for at, light in enumerate(lights):
                others = lights[:at] + lights[at + 1:]
                if others and mixture(others, light) is not None:
                    self.assertTrue(shown_as_mixture(others, light, mixture(others, light)))
                    told.append(at)
                elif others:
                    self.assertTrue(shown_as_none(others, light, parting_row(others, light)))
            many += len(told)
            self.gives(tuple(told), needless, lights)
        self.assertGreater(many, 30)
        for lights, told in (
            ((EAST,), ()), ((DARK,), ()), ((PLAIN,), ()), ((DARK, DARK), (0, 1)), ((EAST, DARK), (1,)),
            ((EAST, EAST), (0, 1)),
            ((EAST, (1, 1, 0, 0, 7), WEST), (0, 1)), ((EAST, WEST, NORTH, SOUTH), ()),
            ((EAST, WEST, NORTH, SOUTH, PLAIN), (4,)),
            ((EAST, WEST, NORTH, SOUTH, UP, DOWN, PLAIN, DARK), (6, 7)), ((PLAIN, EAST, WEST), (0,)),
        ):
            self.gives(told, needless, lights)

    def test_lights_that_reach_the_same(self):
        square = (EAST, WEST, NORTH, SOUTH)
        for one, two, told in (
            ((EAST,), ((1, 1, 0, 0, 9),), True), ((EAST,), (EAST, DARK), True), ((DARK,), (DARK, DARK), True),
            ((EAST,), (DARK,), False),
            (square, square + (PLAIN,), True), (square, square[::-1], True), (square, square[:3], False),
            (square, square + (UP,), False),
            ((EAST, WEST), (WEST, PLAIN, EAST), True), ((EAST, WEST), (EAST, PLAIN), False),
            ((EAST, WEST), (NORTH, SOUTH), False),
            ((EAST,), (WEST,), False), ((PLAIN,), (BRIGHT,), True),
            (square + (UP, DOWN, PLAIN, DARK), (DOWN, UP) + square, True),
        ):
            self.gives(told, reach_the_same, one, two)
            self.gives(told, reach_the_same, two, one)

    def test_numbers_with_many_figures(self):
        huge = 10 ** 399
        lights = tuple([(huge + 9, at, huge - 7, 1, huge - 1) for at in (0, 1, 5, 7)])
        light = row_of(mixed(lights, [Fraction(1, huge), Fraction(huge, 3), Fraction(2), Fraction(1, 7)]))
        self.assertTrue(self.check(lights, light))
        self.assertFalse(self.check(lights, (huge, 3, huge - 1, 0, 1)))

    def test_wrong_arguments(self):
        empty = [((), None)]
        some = Argument("lights", (EAST, WEST), InvalidLights, (), wrong_lists(LAMP, WRONG_LIGHTS, 8) + empty)
        a_light = Argument("light", LAMP, InvalidLight, WRONG_LIGHTS)
        for function in (mixture, parting_row, fewest_lights):
            self.checks_arguments(function, some, a_light)
        self.checks_arguments(needless, some)
        others = Argument("others", (NORTH,), InvalidLights, (), wrong_lists(LAMP, WRONG_LIGHTS, 8) + empty)
        self.checks_arguments(reach_the_same, some, others)
        for lights in ((EAST, WEST), (EAST,) * 8):
            right = Argument("lights", lights, InvalidLights, (), some_wrong())
            wrong = NO_WHOLES + (-1, len(lights), BIG, -BIG, (1, 1))
            self.checks_arguments(weight_range, right, a_light, Argument("index", len(lights) - 1, InvalidIndex, wrong))


def some_wrong():
    """Some values that are no tuple of lights."""
    return [(None, None), ((), None), ([EAST], None), ((EAST, PRICKLY), 1), ((EAST,) * 9, 8), ((EAST, None, None), 1)]


if __name__ == "__main__":
    unittest.main()
