"""Points [41] to [43] and platelights/fringes.py: for which lights there are fringes, and how sharp they get."""

import unittest
from fractions import Fraction

from platelights.errors import InvalidFraction, InvalidLight, InvalidMatrix
from platelights.fringes import at_most, blunt_phases, fringeless, fringes_behind, never_fringes, plain_fringes, sharper
from platelights.lights import is_kind, is_light, pure_light
from tests.cases import Argument, Case
from tests.reckon import complex_matrix, led, multiplied, numbers_of, pair_of, product, rows_of_matrix, rows_of_plate
from tests.reckon import worth
from tests.test_beams import DARK, EDGES, I, LEVEL, NONE, O, PLAIN, SLANT, UPRIGHT, WHOLE, fringe_by_levels
from tests.values import BIG, LAMP, WRONG_FRACTIONS, WRONG_LIGHTS, WRONG_MATRICES, Draw

TELLING = (PLAIN, (1, 1, 0, 0, 1), SLANT, (1, 0, 0, 1, 1))
WRONG_SHARES = WRONG_FRACTIONS + [(-1, 2), (3, 2), (-1, 1), (2, 1), (BIG + 1, BIG), (-1, BIG)]


def diagonal(first, last):
    return ((first, O), (O, last))


def some_beams(seed, many):
    draw = Draw(seed)
    found = list(EDGES)
    for _ in range(many):
        found += [(draw.matrix(2), draw.matrix(2)), (draw.matrix(1), draw.matrix(1))]
        # So few numbers are not 0 here that all sorts come up.
        found.append((draw.matrix(1), diagonal(draw.row(2, 1), draw.row(2, 1))))
        found.append((diagonal(draw.row(2, 1), O), ((draw.row(2, 1), draw.row(2, 1)), (O, O))))
    return found


def swing_of(one, two, light):
    return fringe_by_levels(one, two, light)[1:]


def fringe_rows(one, two):
    """The two rows of four numbers that make B and D of a light."""
    swings = [swing_of(one, two, light) for light in TELLING]
    first = [swing[0] for swing in swings]
    second = [swing[1] for swing in swings]
    return [[row[0]] + [number - row[0] for number in row[1:]] for row in (first, second)]


def null_space(rows):
    """Rows that span all numbers at which two rows are 0."""
    left, pivots = [[Fraction(number) for number in row] for row in rows], []
    for at in range(4):
        pivot = next((row for row in left if row[at] != 0), None)
        if pivot is not None:
            left.remove(pivot)
            pivot = [number / pivot[at] for number in pivot]
            left = [[x - row[at] * y for x, y in zip(row, pivot)] for row in left]
            pivots = [(place, [x - row[at] * y for x, y in zip(row, pivot)]) for place, row in pivots] + [(at, pivot)]
    places = [place for place, _ in pivots]
    span = []
    for at in range(4):
        if at not in places:
            step = [Fraction(int(place == at)) for place in range(4)]
            for place, pivot in pivots:
                step[place] = -pivot[at]
            span.append(step)
    return span


def sort_of(span):
    """How the product of lights is on a space: pure and dark alone for none or kind, else more."""
    gram = [[-product(one, two) for two in span] for one in span]
    # Steps of Gauss: the form is above 0 but for what is left at the end.
    while gram:
        pivot = next((at for at in range(len(gram)) if gram[at][at] != 0), None)
        if pivot is None:
            return "light" if any(any(row) for row in gram) else "kind"
        if gram[pivot][pivot] < 0:
            return "light"
        row = gram[pivot]
        gram = [[line[at] - line[pivot] * row[at] / row[pivot] for at in range(len(row)) if at != pivot]
                for number, line in enumerate(gram) if number != pivot]
    return "none"


class FringesTest(Case):

    def test_examples(self):
        self.gives(True, never_fringes, LEVEL, UPRIGHT)
        self.gives(False, never_fringes, LEVEL, WHOLE)
        self.gives(False, plain_fringes, LEVEL, UPRIGHT)
        self.gives(("all",), fringeless, LEVEL, UPRIGHT)
        self.gives(("kind", (-1, 0, 0, 1)), fringeless, LEVEL, WHOLE)
        self.gives(True, at_most, LEVEL, UPRIGHT, (0, 1))
        self.gives(False, at_most, LEVEL, WHOLE, (1, 2))
        self.gives(0, blunt_phases, LEVEL, UPRIGHT)
        self.gives(1, blunt_phases, WHOLE, WHOLE)

    def test_fringes_of_all_and_of_plain_light(self):
        seen = {}
        for one, two in some_beams(1, 60):
            never = all(swing_of(one, two, light) == (0, 0) for light in TELLING)
            plain = swing_of(one, two, PLAIN) != (0, 0)
            seen[never, plain] = seen.get((never, plain), 0) + 1
            self.gives(never, never_fringes, one, two)
            self.gives(plain, plain_fringes, one, two)
        self.assertEqual(set(seen), {(True, False), (False, True), (False, False)})
        # Crosswise polarised out of plain light and led back to one kind: fringes, but not of plain light.
        one, two = LEVEL, ((O, I), (O, O))
        self.gives(False, never_fringes, one, two)
        self.gives(False, plain_fringes, one, two)
        self.assertNotEqual(swing_of(one, two, SLANT), (0, 0))

    def test_lights_without_fringes(self):
        seen = {}
        for one, two in some_beams(2, 100):
            told = fringeless(one, two)
            self.gives(told, fringeless, one, two)
            rows = fringe_rows(one, two)
            sort = "all" if not any(rows[0]) and not any(rows[1]) else sort_of(null_space(rows))
            seen[sort] = seen.get(sort, 0) + 1
            self.assertEqual(told[0], sort)
            self.assertEqual(len(told), 1 if sort in ("all", "none") else 2)
            if sort == "kind":
                self.assertTrue(is_kind(told[1]))
                self.assertEqual(swing_of(one, two, pure_light(told[1])), (0, 0))
            elif sort == "light":
                self.assertTrue(is_light(told[1]))
                numbers = numbers_of(told[1])
                self.assertGreater(product(numbers, numbers), 0)
                self.assertEqual(swing_of(one, two, told[1]), (0, 0))
        self.assertEqual(set(seen), {"all", "none", "kind", "light"})
        self.assertGreater(min(seen.values()), 15, seen)

    def test_edges_of_lights_without_fringes(self):
        turned = diagonal((0, 1), I)
        for one, two, told in (
            (NONE, NONE, ("all",)), (WHOLE, NONE, ("all",)), (WHOLE, WHOLE, ("none",)), (LEVEL, LEVEL, ("kind", (-1, 0, 0, 1))),
            (UPRIGHT, WHOLE, ("kind", (1, 0, 0, 1))), (WHOLE, turned, ("none",)), (WHOLE, diagonal(I, (2, 1)), ("none",)),
            # B is I + U and D is 0; and I + Q and V, either way round: both are 0 at one kind alone.
            (((I, I), (O, O)), ((I, I), (O, O)), ("kind", (0, -1, 0, 1))),
            (WHOLE, ((I, I), ((-1, 0), O)), ("kind", (-1, 0, 0, 1))),
            (WHOLE, (((0, 1), (0, 1)), ((0, -1), O)), ("kind", (-1, 0, 0, 1))),
        ):
            self.gives(told, fringeless, one, two)
        # B is Q or U alone, or Q and U: lights that do not swing so make no fringes.
        minus = diagonal(I, (-1, 0))
        for one, two in ((WHOLE, minus), (WHOLE, ((O, I), (I, O))), (LEVEL, ((O, I), (O, O))), (LEVEL, ((O, (5, 2)), (O, O)))):
            told = fringeless(one, two)
            self.assertEqual(told[0], "light")
            self.assertEqual(swing_of(one, two, told[1]), (0, 0))
            self.assertTrue(is_light(told[1]) and product(told[1], told[1]) > 0)

    def test_fringes_behind_polarisers(self):
        draw, seen = Draw(3), {True: 0, False: 0}
        for one, two in some_beams(4, 40):
            for light in (DARK, PLAIN, (1, -1, 0, 0, 1), draw.pure(), draw.light()):
                told = fringes_behind(one, two, light)
                self.gives(told, fringes_behind, one, two, light)
                seen[told is None] += 1
                if told is not None:
                    self.assertTrue(is_kind(told))
                    self.assertNotEqual(self.swing_behind(one, two, light, told), (0, 0))
                else:
                    for kind in ((1, 0, 0, 1), (-1, 0, 0, 1), (0, 1, 0, 1), (0, 0, 1, 1), draw.kind(), draw.kind()):
                        self.assertEqual(self.swing_behind(one, two, light, kind), (0, 0))
        self.assertGreater(min(seen.values()), 100)
        # Crosswise arms make no fringes of slanting light, but behind a slanting polariser they do.
        self.assertEqual(swing_of(LEVEL, UPRIGHT, SLANT), (0, 0))
        self.assertIn(fringes_behind(LEVEL, UPRIGHT, SLANT), ((0, 1, 0, 1), (0, 0, 1, 1)))
        # Of the four kinds of point [42] just one brings these fringes back.
        for two, kind in (
            (((O, (-1, 1)), ((-1, -1), (2, 0))), (-1, 0, 0, 1)), ((((2, 0), (-1, 1)), ((-1, -1), O)), (1, 0, 0, 1)),
            (((O, I), (I, O)), (0, 1, 0, 1)), (((O, (0, -1)), ((0, 1), O)), (0, 0, 1, 1)),
        ):
            self.assertNotEqual(self.swing_behind(WHOLE, two, PLAIN, kind), (0, 0))
            told = fringes_behind(WHOLE, two, PLAIN)
            self.assertTrue(is_kind(told))
            self.assertNotEqual(self.swing_behind(WHOLE, two, PLAIN, told), (0, 0))
        self.gives(None, fringes_behind, LEVEL, UPRIGHT, PLAIN)
        self.gives(None, fringes_behind, LEVEL, UPRIGHT, (1, 1, 0, 0, 1))
        self.gives(None, fringes_behind, WHOLE, WHOLE, DARK)

    def swing_behind(self, one, two, light, kind):
        """B and D behind a polariser, by the levels at three phases."""
        levels = []
        for turned in (1, -1, 1j):
            arms = zip(complex_matrix(one), complex_matrix(two))
            whole = [[x + turned * y for x, y in zip(row, other)] for row, other in arms]
            gaussians = tuple([tuple([(int(x.real), int(x.imag)) for x in row]) for row in whole])
            numbers = led(multiplied(rows_of_plate(("polariser", kind)), rows_of_matrix(gaussians)), numbers_of(light))
            levels.append(numbers[0])
        mean = (levels[0] + levels[1]) / 2
        return levels[0] - mean, levels[2] - mean

    def square_of(self, one, two, light):
        """The square of a contrast; 0 where all is dark."""
        mean, across, along = fringe_by_levels(one, two, light)
        return (across * across + along * along) / (mean * mean) if mean else Fraction(0)

    def check_share(self, one, two, share, at_most_it):
        """Check what is told of a share, it being known whether the contrast is above it for some light."""
        self.gives(at_most_it, at_most, one, two, share)
        told = sharper(one, two, share)
        self.gives(told, sharper, one, two, share)
        if at_most_it:
            self.assertIsNone(told)
        else:
            self.assertTrue(is_light(told))
            self.assertGreater(self.square_of(one, two, told), worth(share) ** 2)

    def test_greatest_contrasts_that_are_known(self):
        tiny = Fraction(1, BIG)
        for one, two, greatest in (
            (WHOLE, WHOLE, 1), (WHOLE, diagonal((2, 0), (2, 0)), Fraction(4, 5)), (WHOLE, diagonal((0, 3), (0, 3)), Fraction(3, 5)),
            (diagonal(I, (2, 0)), diagonal((2, 0), I), Fraction(4, 5)), (WHOLE, diagonal((7, 0), (0, 1)), 1), (LEVEL, UPRIGHT, 0),
            (NONE, WHOLE, 0), (NONE, NONE, 0), (WHOLE, diagonal((2, 0), (3, 0)), Fraction(4, 5)), (LEVEL, WHOLE, 1),
            (WHOLE, diagonal((5, 0), (0, 3)), Fraction(3, 5)), (WHOLE, diagonal(O, (1000, 0)), Fraction(2000, 1000001)),
        ):
            for share in (Fraction(0), greatest - tiny, Fraction(greatest), greatest + tiny, Fraction(1, 2), Fraction(1)):
                if 0 <= share <= 1:
                    self.check_share(one, two, pair_of(share), greatest <= share)

    def test_greatest_contrasts_that_are_no_fractions(self):
        # With 1 and 1 + i the contrast is 2 root 2 / 3 for all lights.
        one, two = WHOLE, diagonal((1, 1), (1, 1))
        for share in (Fraction(9428090415, 10 ** 10), Fraction(942809041582063, 10 ** 15), Fraction(94, 100)):
            self.check_share(one, two, pair_of(share), False)
        for share in (Fraction(9428090416, 10 ** 10), Fraction(942809041582064, 10 ** 15), Fraction(95, 100)):
            self.check_share(one, two, pair_of(share), True)

    def test_shares_of_drawn_beams(self):
        draw, between = Draw(5), 0
        for one, two in some_beams(6, 8):
            low, high = Fraction(0), Fraction(1)
            self.gives(True, at_most, one, two, (1, 1))
            # The greatest contrast lies between these; no drawn light has a greater one.
            for _ in range(12):
                middle = (low + high) / 2
                if at_most(one, two, pair_of(middle)):
                    self.check_share(one, two, pair_of(middle), True)
                    high = middle
                else:
                    self.check_share(one, two, pair_of(middle), False)
                    low = middle
            between += 0 < low and high < 1
            for _ in range(40):
                self.assertLessEqual(self.square_of(one, two, draw.pure()), high * high)
        self.assertGreater(between, 5)

    def test_blunt_phases_of_known_roots(self):
        a, b, c, unit = (3, 4), (5, 0), (-5, 12), (13, 0)
        for one, two, many in (
            (WHOLE, WHOLE, 1), (NONE, NONE, None), (WHOLE, NONE, 0), (NONE, WHOLE, 0), (LEVEL, LEVEL, None), (LEVEL, UPRIGHT, 0),
            (diagonal(a, c), diagonal(b, unit), 2), (diagonal(a, a), diagonal(b, b), 1), (diagonal(a, I), diagonal(b, (2, 0)), 1),
            (diagonal(a, (2, 0)), diagonal(b, I), 1), (diagonal((1, 1), (2, 0)), diagonal(I, I), 0),
            (diagonal(I, (1, 1)), diagonal(I, (1, 1)), 1), (diagonal(I, I), diagonal(I, (-1, 0)), 2),
            (diagonal(I, O), diagonal(I, O), None), (diagonal(I, O), diagonal(I, I), 1),
            # Roots at z = 2 and z = 1 / 2: both ends are alike, yet no phase is blunt.
            (diagonal((2, 0), I), diagonal((-1, 0), (-2, 0)), 0), (diagonal((0, 2), (0, 1)), diagonal(I, (2, 0)), 0),
            # Squares of the lengths that are alike, told by no setting: z z = i.
            (diagonal(I, I), ((O, (0, 1)), (I, O)), 2), (diagonal((1, 1), I), diagonal((1, 1), (0, 1)), 2),
            # m is 0 and d1 is as long as d2; m alone.
            (((I, O), (O, (0, 2))), ((O, I), ((2, 0), O)), 2), (diagonal(O, I), diagonal(I, O), 0),
            (LEVEL, ((O, I), (O, O)), None),
        ):
            self.gives(many, blunt_phases, one, two)
            for turn in (((I, (1, 1)), (O, I)), (((2, 0), I), (I, (0, 1)))):
                led_one, led_two = self.product(turn, one), self.product(turn, two)
                self.gives(many, blunt_phases, led_one, led_two)
                self.gives(many, blunt_phases, self.product(led_one, turn), self.product(led_two, turn))
            # The phases of the one are those of the other, the other way round.
            self.gives(many, blunt_phases, two, one)

    def product(self, one, two):
        whole = multiplied(complex_matrix(one), complex_matrix(two))
        return tuple([tuple([(int(x.real), int(x.imag)) for x in row]) for row in whole])

    def test_blunt_phases_of_drawn_beams(self):
        seen = {}
        for one, two in some_beams(7, 100):
            (x, y), (z, w) = complex_matrix(one)
            (e, f), (g, h) = complex_matrix(two)
            first, last = x * w - y * z, e * h - f * g
            middle = x * h + e * w - y * g - f * z
            if first == middle == last == 0:
                roots = None
            elif last != 0:
                root = (middle * middle - 4 * first * last) ** 0.5
                roots = [(-middle + root) / (2 * last), (-middle - root) / (2 * last)]
            else:
                roots = [-first / middle] if middle != 0 else []
            if roots is None:
                many = None
            else:
                ones = [root for root in roots if abs(abs(root) - 1) < 1e-7]
                many = len(ones)
                if many == 2 and abs(ones[0] - ones[1]) < 1e-6:
                    many = 1
            seen[many] = seen.get(many, 0) + 1
            self.gives(many, blunt_phases, one, two)
        self.assertEqual(set(seen), {None, 0, 1, 2})

    def test_wrong_arguments(self):
        a_one = Argument("one", LEVEL, InvalidMatrix, WRONG_MATRICES)
        a_two = Argument("two", WHOLE, InvalidMatrix, WRONG_MATRICES)
        for function in (never_fringes, plain_fringes, fringeless, blunt_phases):
            self.checks_arguments(function, a_one, a_two)
        self.checks_arguments(fringes_behind, a_one, a_two, Argument("light", LAMP, InvalidLight, WRONG_LIGHTS))
        for function in (at_most, sharper):
            for share in ((0, 1), (1, 2), (1, 1)):
                self.checks_arguments(function, a_one, a_two, Argument("share", share, InvalidFraction, WRONG_SHARES))


if __name__ == "__main__":
    unittest.main()
