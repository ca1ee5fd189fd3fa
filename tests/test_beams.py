"""Points [40], [41] and platelights/beams.py: light parted into two arms and laid together again."""

import unittest
from fractions import Fraction

from platelights.beams import beam_level, beam_light, brightest, contrast_square, fringe, has_fringes, level_ends, ring
from platelights.beams import times_at
from platelights.errors import InvalidFraction, InvalidLight, InvalidMatrix, InvalidSetting
from platelights.fractions import is_surd
from platelights.lights import is_light, kind_of
from tests.cases import Argument, Case
from tests.reckon import double_of, is_light_row, led, numbers_of, pair_of, row_of, rows_of_matrix, worth
from tests.values import BIG, LAMP, WRONG_FRACTIONS, WRONG_LIGHTS, WRONG_MATRICES, WRONG_SETTINGS, Draw, reduced

O, I = (0, 0), (1, 0)
LEVEL, UPRIGHT, WHOLE, NONE = ((I, O), (O, O)), ((O, O), (O, I)), ((I, O), (O, I)), ((O, O), (O, O))
DARK, PLAIN, SLANT, ALONG = (0, 0, 0, 0, 1), (1, 0, 0, 0, 1), (1, 0, 1, 0, 1), (1, 1, 0, 0, 1)
PHASES = ((0, 1), (1, 0), (1, 1), (-1, 1), (1, 2), (-3, 1), (2, 5), (-7, 4))
EDGES = ((LEVEL, UPRIGHT), (WHOLE, WHOLE), (LEVEL, WHOLE), (NONE, NONE), (NONE, WHOLE), (WHOLE, NONE), (LEVEL, LEVEL))


def times(gaussian, other):
    return (gaussian[0] * other[0] - gaussian[1] * other[1], gaussian[0] * other[1] + gaussian[1] * other[0])


def light_at(one, two, light, phase):
    """The four numbers behind two arms at a phase, by the matrix of the whole."""
    a, b = phase
    size, turned = a * a + b * b, (b * b - a * a, 2 * a * b)
    whole = []
    for row, other in zip(one, two):
        parts = [(times((size, 0), x), times(turned, y)) for x, y in zip(row, other)]
        whole.append(tuple([(x[0] + y[0], x[1] + y[1]) for x, y in parts]))
    return [number / (size * size) for number in led(rows_of_matrix(tuple(whole)), numbers_of(light))]


def fringe_by_levels(one, two, light):
    """A, B and D, by the levels at three phases."""
    first, last, quarter = [light_at(one, two, light, phase)[0] for phase in ((0, 1), (1, 0), (1, 1))]
    mean = (first + last) / 2
    return mean, first - mean, quarter - mean


def some_beams(seed, many):
    """Two matrices and a light, again and again."""
    draw = Draw(seed)
    found = [pair + (light,) for pair in EDGES for light in (DARK, PLAIN, SLANT, ALONG, LAMP)]
    for _ in range(many):
        found.append((draw.matrix(2), draw.matrix(2), draw.light()))
        found.append((draw.matrix(1), draw.matrix(1), draw.pure()))
    return found


class BeamsTest(Case):

    def test_examples(self):
        self.gives((1, 0, 1, 0, 1), beam_light, LEVEL, UPRIGHT, SLANT, (0, 1))
        self.gives((1, 0, -1, 0, 1), beam_light, LEVEL, UPRIGHT, SLANT, (1, 0))
        self.gives((1, 0, 0, 1, 1), beam_light, LEVEL, UPRIGHT, SLANT, (1, 1))
        self.gives((2, 0, 0, 0, 1), beam_light, WHOLE, WHOLE, PLAIN, (1, 1))
        self.gives(((1, 1), (0, 1), (0, 1)), fringe, LEVEL, UPRIGHT, SLANT)
        self.gives(((2, 1), (2, 1), (0, 1)), fringe, WHOLE, WHOLE, PLAIN)
        self.gives((1, 1), contrast_square, WHOLE, WHOLE, PLAIN)
        self.gives((4, 9), contrast_square, LEVEL, WHOLE, PLAIN)
        self.gives((1, 0), brightest, WHOLE, WHOLE, PLAIN)
        self.gives((16, 5), beam_level, WHOLE, WHOLE, PLAIN, (1, 2))
        self.gives((((1, 2), 0, (0, 1)), ((5, 2), 0, (0, 1))), level_ends, LEVEL, WHOLE, PLAIN)
        self.gives(1, times_at, WHOLE, WHOLE, PLAIN, (4, 1))
        self.gives(2, times_at, WHOLE, WHOLE, PLAIN, (2, 1))
        self.gives(None, times_at, LEVEL, UPRIGHT, SLANT, (1, 1))

    def test_lights_at_phases(self):
        for one, two, light in some_beams(1, 25):
            for phase in PHASES:
                numbers = light_at(one, two, light, phase)
                told = beam_light(one, two, light, phase)
                self.gives(row_of(numbers), beam_light, one, two, light, phase)
                self.assertTrue(is_light(told))
                self.gives(pair_of(numbers[0]), beam_level, one, two, light, phase)
                if kind_of(light) is not None:
                    # What is pure leaves pure, or dark.
                    self.assertTrue(told == DARK or kind_of(told) is not None)

    def test_fringes_of_lights(self):
        seen = {True: 0, False: 0}
        for one, two, light in some_beams(2, 40):
            mean, across, along = fringe_by_levels(one, two, light)
            self.gives((pair_of(mean), pair_of(across), pair_of(along)), fringe, one, two, light)
            for phase in PHASES:
                c, s = double_of(phase)
                self.assertEqual(light_at(one, two, light, phase)[0], mean + across * c + along * s)
            has_some = (across, along) != (0, 0)
            seen[has_some] += 1
            self.gives(has_some, has_fringes, one, two, light)
            square = across * across + along * along
            self.gives(None if mean == 0 else pair_of(square / (mean * mean)), contrast_square, one, two, light)
            numbers = row_of([across, along])[:2]
            self.gives(reduced(numbers) if has_some else None, brightest, one, two, light)
            low, high = level_ends(one, two, light)
            self.gives((low, high), level_ends, one, two, light)
            self.check_ends(low, high, mean, square)
        self.assertGreater(min(seen.values()), 20)

    def check_ends(self, low, high, mean, square):
        """Check that two surds are a mean less and plus the root of a square."""
        for surd, side in ((low, -1), (high, 1)):
            self.assertTrue(is_surd(surd))
            part, sign, rest = surd
            if sign == 0:
                self.assertEqual((worth(part) - mean) ** 2, square)
                self.assertGreaterEqual(side * (worth(part) - mean), 0)
            else:
                self.assertEqual((worth(part), sign, worth(rest)), (mean, side, square))

    def test_edges_of_contrasts(self):
        self.gives(None, contrast_square, NONE, NONE, PLAIN)
        self.gives(None, contrast_square, WHOLE, WHOLE, DARK)
        self.gives(None, contrast_square, LEVEL, LEVEL, (1, -1, 0, 0, 1))
        self.gives((0, 1), contrast_square, NONE, WHOLE, PLAIN)
        self.gives((1, 1), contrast_square, LEVEL, LEVEL, SLANT)
        self.gives((1, 1), contrast_square, WHOLE, WHOLE, (BIG, 1, 2, 3, 7))
        self.gives((0, 1), brightest, WHOLE, (((0, -1), O), (O, (0, -1))), PLAIN)
        self.gives((0, -1), brightest, WHOLE, (((0, 1), O), (O, (0, 1))), PLAIN)
        self.gives((3, -4), brightest, WHOLE, (((3, 4), O), (O, (3, 4))), (BIG, 0, 0, 0, BIG + 1))
        self.gives(None, brightest, WHOLE, WHOLE, DARK)
        self.gives(((2, 1), (0, 1), (-2, 1)), fringe, WHOLE, (((0, 1), O), (O, (0, 1))), PLAIN)

    def test_times_at_a_level(self):
        draw, seen = Draw(3), {}
        for one, two, light in some_beams(4, 40):
            mean, across, along = fringe_by_levels(one, two, light)
            square = across * across + along * along
            levels = [mean, mean + 1, Fraction(0), light_at(one, two, light, (1, 2))[0], worth(draw.fraction())]
            low, high = level_ends(one, two, light)
            levels += [worth(end[0]) for end in (low, high)]
            for level in levels:
                away = (level - mean) ** 2
                many = 2 if away < square else 1 if away == square else 0
                if square == 0:
                    many = None if level == mean else 0
                seen[many] = seen.get(many, 0) + 1
                self.gives(many, times_at, one, two, light, pair_of(level))
        self.assertGreater(min(seen.values()), 20, seen)
        self.assertEqual(set(seen), {None, 0, 1, 2})

    def test_times_at_the_very_ends(self):
        # The fringe of these is 3 + 2 C + 2 S: the ends are 3 - root 8 and 3 + root 8.
        one, two = ((I, O), (O, I)), (((1, -1), O), (O, (1, -1)))
        self.gives(((3, 1), (2, 1), (2, 1)), fringe, one, two, PLAIN)
        self.gives((((3, 1), -1, (8, 1)), ((3, 1), 1, (8, 1))), level_ends, one, two, PLAIN)
        for many, above in ((2, 5828427124), (0, 5828427125), (2, 171572876), (0, 171572875)):
            self.gives(many, times_at, one, two, PLAIN, pair_of(Fraction(above, 10 ** 9)))
        self.gives(1, times_at, WHOLE, WHOLE, PLAIN, (0, 1))
        self.gives(0, times_at, WHOLE, WHOLE, PLAIN, (-1, BIG))
        self.gives(2, times_at, WHOLE, WHOLE, PLAIN, (1, BIG))
        self.gives(0, times_at, NONE, NONE, PLAIN, (1, 1))
        self.gives(None, times_at, NONE, NONE, PLAIN, (0, 1))

    def test_rings(self):
        for one, two, light in some_beams(5, 25):
            told = ring(one, two, light)
            self.gives(told, ring, one, two, light)
            mean, across, along = [[worth(part) for part in row] for row in told]
            for phase in PHASES:
                c, s = double_of(phase)
                whole = [x + c * y + s * z for x, y, z in zip(mean, across, along)]
                self.assertEqual(whole, light_at(one, two, light, phase))
                self.assertTrue(is_light_row(whole))
        self.gives((((1, 1), (0, 1), (0, 1), (0, 1)), ((0, 1), (0, 1), (1, 1), (0, 1)), ((0, 1), (0, 1), (0, 1), (1, 1))),
                   ring, LEVEL, UPRIGHT, SLANT)

    def test_wrong_arguments(self):
        a_one = Argument("one", LEVEL, InvalidMatrix, WRONG_MATRICES)
        a_two = Argument("two", WHOLE, InvalidMatrix, WRONG_MATRICES)
        a_light = Argument("light", LAMP, InvalidLight, WRONG_LIGHTS)
        for function in (fringe, has_fringes, contrast_square, brightest, level_ends, ring):
            self.checks_arguments(function, a_one, a_two, a_light)
        for function in (beam_light, beam_level):
            self.checks_arguments(function, a_one, a_two, a_light, Argument("phase", (1, 2), InvalidSetting, WRONG_SETTINGS))
        self.checks_arguments(times_at, a_one, a_two, a_light, Argument("level", (1, 2), InvalidFraction, WRONG_FRACTIONS))


if __name__ == "__main__":
    unittest.main()
