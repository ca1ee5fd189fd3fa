"""Points [7] to [10] and platelights/lights.py: lights, kinds, looks, products and parts of a light."""

import unittest
from fractions import Fraction

from platelights.errors import Dark, InvalidFraction, InvalidKind, InvalidLight, InvalidLook, InvalidNumber
from platelights.errors import InvalidNumbers
from platelights.lights import added, is_kind, is_light, is_look, kind_of, lens, light_of, opposite_kind, product
from platelights.lights import pure_light, purity, read_level, split, times
from tests import reckon
from tests.cases import NO_WHOLES, STRANGE, Argument, Case, wrong_rows
from tests.reckon import numbers_of, pair_of, row_of, worth
from tests.values import BIG, WRONG_FRACTIONS, WRONG_KINDS, WRONG_LIGHTS, WRONG_LOOKS, Draw

DARK, PLAIN, UPRIGHT = (0, 0, 0, 0, 1), (1, 0, 0, 0, 1), (1, 1, 0, 0, 1)
FLIPPED = (0, 0, -1, 1)
WRONG_NUMBERS = list(STRANGE) + wrong_rows((4, 2, 0, 0)) + [0, (1, 0, 0, 0, 1), (1, 0, 0)]


def some_lights(seed, many):
    """Lights of all sorts, with a few at the edges."""
    draw = Draw(seed)
    fixed = [DARK, PLAIN, UPRIGHT, (1, -1, 0, 0, 1), (5, 3, 0, 4, 2), (2, 1, 0, 0, 1), (1, 0, 0, -1, 3), (7, 0, 0, 0, 3)]
    return fixed + [draw.light() for _ in range(many)] + [draw.pure() for _ in range(many // 2)]


class LightsTest(Case):

    def test_what_is_a_light(self):
        for value in some_lights(1, 20) + [(BIG, BIG, 0, 0, 1), (3, 2, 2, 1, 1), (3, -2, -2, -1, 7), (2, 1, 1, 1, 1)]:
            self.gives(True, is_light, value)
        for number, value in enumerate(WRONG_LIGHTS):
            with self.subTest(number=number):
                self.gives(False, is_light, value)

    def test_lights_at_the_rim_of_the_cone(self):
        for numbers in ((3, 2, 2, 1), (7, 6, 3, -2), (BIG, 0, 0, -BIG), (0, 0, 0, 0)):
            self.gives(True, is_light, numbers + (1,))
            for at in range(1, 4):
                more = 1 if numbers[at] >= 0 else -1
                beyond = numbers[:at] + (numbers[at] + more,) + numbers[at + 1:] + (1,)
                self.gives(False, is_light, beyond)

    def test_what_is_a_kind(self):
        for value in ((1, 0, 0, 1), (-1, 0, 0, 1), FLIPPED, (0, 0, 1, 1), (2, 1, 2, 3), (-3, 0, 4, 5), (2, -3, 6, 7)):
            self.gives(True, is_kind, value)
        for number, value in enumerate(WRONG_KINDS):
            with self.subTest(number=number):
                self.gives(False, is_kind, value)

    def test_what_is_a_look(self):
        for value in ((1, 0, 0, 0), (1, 1, 0, 0), (2, 1, 1, 0), (3, -2, 2, 1), (1, 0, 0, -1), (BIG, BIG - 1, 1, 1)):
            self.gives(True, is_look, value)
        for number, value in enumerate(WRONG_LOOKS):
            with self.subTest(number=number):
                self.gives(False, is_look, value)

    def test_examples(self):
        self.gives((2, 1, 0, 0, 3), light_of, (4, 2, 0, 0), 6)
        self.gives((2, 1, 0, 0, 1), added, PLAIN, UPRIGHT)
        self.gives((1, 4), purity, (2, 1, 0, 0, 1))
        self.gives((3, 0, 4, 5), kind_of, (5, 3, 0, 4, 2))
        self.gives(None, kind_of, PLAIN)
        self.gives((1, 0, 0, 1), lens, 1, 0, 1)
        self.gives((2, 2, -1, 3), lens, 1, 1, 1)
        self.gives((3, 2, 1, 2, 3), pure_light, (2, 1, 2, 3))
        self.gives((1, 1), product, PLAIN, PLAIN)
        self.gives((2, 1), product, UPRIGHT, (1, -1, 0, 0, 1))
        self.gives(((1, 1, 0, 0, 2), (1, -1, 0, 0, 2)), split, PLAIN, (1, 0, 0, 1))
        self.gives(((3, 0, 0, 3, 4), (5, 4, 0, -3, 4)), split, (2, 1, 0, 0, 1), (0, 0, 1, 1))
        self.gives((UPRIGHT, DARK), split, UPRIGHT, (1, 0, 0, 1))

    def test_read_level(self):
        draw = Draw(2)
        looks = [(1, 0, 0, 0), (1, 1, 0, 0), (2, 1, 1, 0), (3, -2, 2, 1)] + [draw.light()[:4] for _ in range(30)]
        looks = [row_of(look)[:4] for look in looks if look != (0, 0, 0, 0)]
        for look in [look for look in looks if is_look(look)]:
            for light in some_lights(3, 10):
                level = reckon.dot(look, numbers_of(light))
                self.gives(pair_of(level), read_level, look, light)
                self.assertGreaterEqual(level, 0)

    def test_a_look_reads_nothing_of_the_opposite_kind_alone(self):
        for light in [light for light in some_lights(4, 30) if light != DARK]:
            level = read_level((3, 2, 2, 1), light)
            self.assertEqual(level == (0, 1), kind_of(light) == (-2, -2, -1, 3))
        self.gives((0, 1), read_level, (3, 2, 2, 1), (3, -2, -2, -1, 5))
        self.gives((18, 5), read_level, (3, 2, 2, 1), (3, 2, 2, 1, 5))
        self.gives((0, 1), read_level, (1, 1, 0, 0), DARK)

    def test_wrong_arguments_of_read_level(self):
        self.checks_arguments(
            read_level,
            Argument("look", (2, 1, 1, 0), InvalidLook, WRONG_LOOKS),
            Argument("light", (2, 1, 0, 0, 1), InvalidLight, WRONG_LIGHTS),
        )

    def test_light_of(self):
        self.gives(DARK, light_of, (0, 0, 0, 0), 7)
        self.gives((1, 0, 0, -1, 1), light_of, (BIG, 0, 0, -BIG), BIG)
        for light in some_lights(5, 20):
            for many in (1, 2, 15):
                numbers = tuple([many * number for number in light[:4]])
                self.gives(light, light_of, numbers, many * light[4])

    def test_wrong_arguments_of_light_of(self):
        self.checks_arguments(
            light_of,
            Argument("numbers", (4, 2, 0, 0), InvalidNumbers, WRONG_NUMBERS),
            Argument("below", 6, InvalidNumber, NO_WHOLES + (0, -1, -BIG)),
        )
        # Numbers that are no light are told last, reduced.
        self.refuses(InvalidNumber, "given", 0, lambda: light_of((0, 1, 0, 0), 0))
        for numbers, below, reduced in (
            ((2, 4, 0, 0), 6, (1, 2, 0, 0, 3)), ((-4, 0, 0, 0), 2, (-2, 0, 0, 0, 1)), ((0, 0, 0, 1), 1, (0, 0, 0, 1, 1)),
            ((-5, 3, 4, 0), 5, (-5, 3, 4, 0, 5)), ((3, 2, 2, -2), 1, (3, 2, 2, -2, 1)),
        ):
            with self.assertRaises(InvalidLight) as caught:
                light_of(numbers, below)
            self.assertEqual(caught.exception.given, reduced)
            with self.assertRaises(InvalidLight):
                light_of(numbers=numbers, below=below)

    def test_added(self):
        lights = some_lights(6, 12)
        for light in lights:
            for other in lights:
                whole = [one + two for one, two in zip(numbers_of(light), numbers_of(other))]
                self.gives(row_of(whole), added, light, other)
                self.assertTrue(is_light(added(light, other)))

    def test_wrong_arguments_of_added(self):
        self.checks_arguments(
            added,
            Argument("light", PLAIN, InvalidLight, WRONG_LIGHTS),
            Argument("other", UPRIGHT, InvalidLight, WRONG_LIGHTS),
        )

    def test_times(self):
        for light in some_lights(7, 15):
            for part in ((0, 1), (1, 1), (2, 1), (1, 6), (4, 3), (BIG, 1), (1, BIG)):
                told = [worth(part) * number for number in numbers_of(light)]
                self.gives(row_of(told), times, light, part)
        self.gives(DARK, times, UPRIGHT, (0, 1))

    def test_wrong_arguments_of_times(self):
        self.checks_arguments(
            times,
            Argument("light", PLAIN, InvalidLight, WRONG_LIGHTS),
            Argument("part", (1, 2), InvalidFraction, WRONG_FRACTIONS + [(-1, 2), (-1, 1), (-BIG, 7)]),
        )

    def test_purity(self):
        for light in some_lights(8, 20):
            if light != DARK:
                i, q, u, v = numbers_of(light)
                self.gives(pair_of((q * q + u * u + v * v) / (i * i)), purity, light)
        self.gives((0, 1), purity, (7, 0, 0, 0, 3))
        self.gives((1, 1), purity, (3, -2, 2, 1, 7))

    def test_wrong_arguments_of_purity(self):
        self.checks_arguments(purity, Argument("light", PLAIN, InvalidLight, WRONG_LIGHTS))
        self.refuses(Dark, None, None, lambda: purity(DARK))
        self.refuses(Dark, None, None, lambda: purity(light=DARK))

    def test_kind_of(self):
        for light in some_lights(9, 30):
            i, q, u, v = light[:4]
            if i > 0 and i * i == q * q + u * u + v * v:
                kind = kind_of(light)
                self.gives(kind, kind_of, light)
                self.assertTrue(is_kind(kind))
                self.assertEqual([Fraction(number, kind[3]) for number in kind[:3]], [Fraction(x, i) for x in (q, u, v)])
            else:
                self.gives(None, kind_of, light)
        self.gives(None, kind_of, DARK)
        self.gives(FLIPPED, kind_of, (1, 0, 0, -1, 3))
        self.gives((2, 1, 2, 3), kind_of, (6, 4, 2, 4, 5))

    def test_each_kind_is_that_of_its_light(self):
        draw = Draw(10)
        for kind in [FLIPPED, (0, 0, 1, 1)] + [draw.kind() for _ in range(30)]:
            light = pure_light(kind)
            self.gives((kind[3],) + kind[:3] + (kind[3],), pure_light, kind)
            self.assertTrue(is_light(light))
            self.assertEqual(kind_of(light), kind)
            self.assertEqual(read_level((1, 0, 0, 0), light), (1, 1))
            self.gives((-kind[0], -kind[1], -kind[2], kind[3]), opposite_kind, kind)

    def test_wrong_arguments_of_lights_and_kinds(self):
        self.checks_arguments(kind_of, Argument("light", PLAIN, InvalidLight, WRONG_LIGHTS))
        self.checks_arguments(pure_light, Argument("kind", FLIPPED, InvalidKind, WRONG_KINDS))
        self.checks_arguments(opposite_kind, Argument("kind", FLIPPED, InvalidKind, WRONG_KINDS))

    def test_lens(self):
        found = {}
        for x in range(-6, 7):
            for y in range(-6, 7):
                for w in (1, 2, 3, 7, 10):
                    kind = lens(x, y, w)
                    self.gives(kind, lens, x, y, w)
                    self.assertTrue(is_kind(kind))
                    self.assertNotEqual(kind, FLIPPED)
                    q, u, v, n = kind
                    self.assertEqual((Fraction(q, n + v), Fraction(u, n + v)), (Fraction(x, w), Fraction(y, w)))
                    point = (Fraction(x, w), Fraction(y, w))
                    self.assertEqual(found.setdefault(kind, point), point)
        self.gives((0, 0, 1, 1), lens, 0, 0, 5)
        self.gives((0, 1, 0, 1), lens, 0, 3, 3)
        self.gives((-1, 0, 0, 1), lens, -BIG, 0, BIG)

    def test_each_kind_but_one_is_a_lens(self):
        size = 9
        for n in range(1, size + 1):
            for q in range(-n, n + 1):
                for u in range(-n, n + 1):
                    for v in range(-n, n + 1):
                        kind = (q, u, v, n)
                        if is_kind(kind) and kind != FLIPPED:
                            self.assertEqual(lens(q, u, n + v), kind)

    def test_wrong_arguments_of_lens(self):
        self.checks_arguments(
            lens,
            Argument("x", 2, InvalidNumber, NO_WHOLES),
            Argument("y", -1, InvalidNumber, NO_WHOLES),
            Argument("below", 3, InvalidNumber, NO_WHOLES + (0, -1, -BIG)),
        )

    def test_product(self):
        lights = some_lights(11, 14)
        for light in lights:
            for other in lights:
                told = reckon.product(numbers_of(light), numbers_of(other))
                self.gives(pair_of(told), product, light, other)
                self.assertGreaterEqual(told, 0)
                alike = kind_of(light) is not None and kind_of(light) == kind_of(other)
                self.assertEqual(told == 0, DARK in (light, other) or alike)

    def test_wrong_arguments_of_product(self):
        self.checks_arguments(
            product,
            Argument("light", PLAIN, InvalidLight, WRONG_LIGHTS),
            Argument("other", UPRIGHT, InvalidLight, WRONG_LIGHTS),
        )

    def test_split(self):
        draw = Draw(12)
        kinds = [FLIPPED, (1, 0, 0, 1), (2, 1, 2, 3)] + [draw.kind() for _ in range(8)]
        for light in some_lights(13, 20):
            for kind in kinds:
                self.check_split(light, kind)

    def check_split(self, light, kind):
        told = split(light, kind)
        self.gives(told, split, light, kind)
        part, rest = told
        if kind_of(light) == kind or light == DARK:
            self.assertEqual(told, (light, DARK))
            return
        self.assertTrue(is_light(part) and is_light(rest))
        self.assertEqual(added(part, rest), light)
        self.assertTrue(part == DARK or kind_of(part) == kind)
        self.assertTrue(rest == DARK or kind_of(rest) is not None)
        # The part is (s product s) / (2 (s product k)) times k.
        s, k = numbers_of(light), [Fraction(number) for number in (kind[3],) + kind[:3]]
        share = reckon.product(s, s) / (2 * reckon.product(s, k))
        self.assertEqual(numbers_of(part), [share * number for number in k])

    def test_split_of_lights_of_the_kind_and_of_others(self):
        self.gives(((3, 2, 1, 2, 7), DARK), split, (3, 2, 1, 2, 7), (2, 1, 2, 3))
        self.gives((DARK, (3, 2, 1, 2, 7)), split, (3, 2, 1, 2, 7), (-2, -1, -2, 3))
        self.gives((DARK, (1, 0, 0, 1, 1)), split, (1, 0, 0, 1, 1), (1, 0, 0, 1))
        self.gives((DARK, DARK), split, DARK, (2, 1, 2, 3))
        self.gives(((1, 0, 0, -1, 2), (1, 0, 0, 1, 2)), split, PLAIN, FLIPPED)

    def test_wrong_arguments_of_split(self):
        self.checks_arguments(
            split,
            Argument("light", (2, 1, 0, 0, 1), InvalidLight, WRONG_LIGHTS),
            Argument("kind", (2, 1, 2, 3), InvalidKind, WRONG_KINDS),
        )


if __name__ == "__main__":
    unittest.main()
