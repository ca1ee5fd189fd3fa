"""Points [44] to [47] and [50], and platelights/readings.py: which lights fit readings, and what bars all lights."""

import unittest
from fractions import Fraction

from platelights.errors import InvalidLight, InvalidReadings
from platelights.lights import is_light
from platelights.ranges import level_range
from platelights.readings import any_light, bar, fits, is_reading, may_be_dark, may_be_plain, may_be_pure, what_fits
from tests.cases import Argument, Case
from tests.reckon import bars_all_lights, equation, keeps, numbers_of, pair_of, product
from tests.unknown import FAMILIES, all_readings, fits_all, plain_readings, reading_of, turned_readings
from tests.values import BIG, LAMP, LEVEL, WRONG_LIGHTS, WRONG_READINGS, Draw, wrong_lists

I, Q = (1, 0, 0, 0), (1, 1, 0, 0)
BRIGHT = (("level", I, (1, 1)),)
HALF = (("ratio", (1, 1, 0, 0), (1, -1, 0, 0), (1, 1)),)
DARK, PLAIN, ALONG = (0, 0, 0, 0, 1), (1, 0, 0, 0, 1), (1, 1, 0, 0, 1)
A_LEVEL = {"none": -1, "one": 0, "some": 1, "endless": 2}


def plain_fits(readings):
    """Whether some light (I, 0, 0, 0) with I above 0 fits, by the one I that each reading lets."""
    levels = [Fraction(1)]
    for reading in readings:
        row, number = equation(reading)
        if row[0] != 0:
            levels.append(number / row[0])
    return any(level > 0 and all(keeps([level, 0, 0, 0], reading) for reading in readings) for level in levels)


class ReadingsTest(Case):

    def test_examples(self):
        for readings, told in (
            ((), "endless"), (BRIGHT, "some"), (HALF, "endless"), ((("level", (1, 1, 0, 0), (1, 1)),), "endless"),
            ((("level", (1, 1, 0, 0), (2, 1)), ("level", (1, -1, 0, 0), (0, 1))), "one"),
        ):
            self.gives(told, what_fits, readings)
        self.gives((1, 1, 0, 0, 1), any_light, BRIGHT + (("level", (1, 1, 0, 0), (2, 1)),))
        self.assertEqual(bar(BRIGHT + (("level", (1, 1, 0, 0), (3, 1)),))[0], "look")
        self.gives(None, bar, BRIGHT + BRIGHT)
        self.assertEqual(bar((("level", (1, 0, 0, 0), (1, 1)), ("level", (1, 0, 0, 0), (2, 1))))[0], "equations")
        self.gives(True, may_be_pure, HALF)

    def test_is_reading(self):
        for value in (
            LEVEL, ("level", I, (-1, 3)), ("level", Q, (0, 1)), ("ratio", I, Q, (0, 1)), ("ratio", Q, I, (-5, 2)),
            ("ratio", I, I, (1, 1)), ("more", I, Q, (-1, 2)), ("more", Q, Q, (0, 1)),
            ("more", (BIG, 1, 0, 0), I, (BIG, 1)),
        ):
            self.gives(True, is_reading, value)
        for value in WRONG_READINGS:
            self.assertIs(is_reading(value), False)
            self.assertIs(is_reading(value=value), False)

    def check_all(self, readings):
        """Check that what is told of readings goes together, and that it is shown."""
        sort, light, paper = what_fits(readings), any_light(readings), bar(readings)
        self.gives(sort, what_fits, readings)
        self.gives(light, any_light, readings)
        self.gives(paper, bar, readings)
        self.assertEqual((light is None, paper is None), (sort == "none", sort != "none"))
        if paper is None:
            self.assertTrue(is_light(light))
            self.assertTrue(fits_all(light, readings))
            self.gives(True, fits, light, readings)
        else:
            self.assertTrue(bars_all_lights(readings, paper), (readings, paper))
            self.assertIs(Draw(1).coprime(paper[1]), True)
        dark = all(equation(reading)[1] == 0 for reading in readings)
        self.gives(dark, may_be_dark, readings)
        self.gives(plain_fits(readings), may_be_plain, readings)
        return sort

    def test_readings_of_each_sort(self):
        words = {}
        for family, readings in all_readings(1, 6):
            with self.subTest(family=family, readings=readings):
                self.assertEqual(self.check_all(readings), family[2])
                self.gives(family[4], may_be_dark, readings)
                self.gives(family[5], may_be_pure, readings)
                if family[2] == "none":
                    word = bar(readings)[0]
                    words[word] = words.get(word, 0) + 1
                    self.assertEqual(word == "equations", family[6] is None)
                    self.assertEqual(word == "edge", family[6:] == ("grazing", 0))
        self.assertEqual(set(words), {"equations", "look", "edge"})

    def test_readings_by_chance(self):
        draw, seen = Draw(2), {}
        for many in (0, 1, 1, 1, 2, 2, 2, 2, 3, 3, 3, 4, 4, 8) * 8:
            sort = self.check_all(tuple([draw.reading(2) for _ in range(many)]))
            seen[sort] = seen.get(sort, 0) + 1
        self.assertGreater(min(seen["none"], seen["some"], seen["endless"]), 3)
        for many in (1, 2, 3, 4, 8) * 8:
            light = draw.light()
            sort = self.check_all(tuple([self.reading_kept(draw, light) for _ in range(many)]))
            self.assertNotEqual(sort, "none")
            seen[sort] = seen.get(sort, 0) + 1
        self.assertGreater(seen["one"], 8)

    def reading_kept(self, draw, light):
        """A reading of any word that a light keeps."""
        numbers, (word, *looks, _) = numbers_of(light), draw.reading(2)
        levels = [sum(one * two for one, two in zip(look, numbers)) for look in looks]
        if word == "level":
            return ("level", looks[0], pair_of(levels[0]))
        if word == "more" or levels[1] == 0:
            return ("more", *(looks * 2)[:2], pair_of(levels[0] - (levels * 2)[1]))
        return ("ratio", *looks, pair_of(levels[0] / levels[1]))

    def test_other_orders_and_readings_told_twice(self):
        draw = Draw(3)
        for family, readings in all_readings(4, 1):
            others = list(readings)
            draw.chance.shuffle(others)
            twice = tuple(others + others)[:8]
            for told in (tuple(others), twice if len(readings) < 5 else tuple(others)):
                self.assertEqual(self.check_all(told), family[2])
                self.gives(family[5], may_be_pure, told)

    def test_levels_of_lights_that_fit(self):
        # Endless means of any level from one on, some that levels are bounded, one that each look reads one level.
        for family, readings in all_readings(5, 2):
            if len(readings) == 8 or family[2] == "none":
                continue
            low, _, high, _ = level_range(readings, I)
            self.assertEqual(high is None, family[2] == "endless")
            for level in (Fraction(10 ** 9), Fraction(BIG, 7)):
                told = self.check_all(readings + (("level", I, pair_of(level)),))
                self.assertEqual(told != "none", family[2] == "endless")
            light = any_light(readings)
            for look in (I, Q, (1, 0, 1, 0), (1, 0, 0, 1)):
                level = sum(one * two for one, two in zip(look, numbers_of(light)))
                for away in (Fraction(-1, BIG), Fraction(1, BIG)):
                    told = self.check_all(readings + (("level", look, pair_of(level + away)),))
                    self.assertTrue(family[2] != "one" or told == "none")

    def test_edges_of_fitting(self):
        one = ("level", Q, (1, 1))
        for readings, sort, dark, plain, pure in (
            ((("ratio", I, I, (1, 1)),), "endless", True, True, True),
            ((("ratio", I, I, (2, 1)),), "one", True, False, False),
            ((("ratio", Q, I, (0, 1)),), "endless", True, False, True),
            ((("ratio", I, Q, (0, 1)),), "one", True, False, False),
            ((("ratio", Q, I, (-1, 1)),), "one", True, False, False),
            ((("ratio", Q, I, (2, 1)),), "endless", True, False, True),
            ((("ratio", Q, I, (3, 1)),), "one", True, False, False),
            ((("ratio", Q, I, (1, 1)),), "endless", True, True, True),
            ((("more", I, I, (0, 1)),), "endless", True, True, True),
            ((("more", I, I, (1, 1)),), "none", False, False, False),
            ((("more", Q, I, (-1, 1)),), "endless", False, False, True),
            ((("more", I, Q, (1, 2)),), "endless", False, False, True),
            ((("more", Q, (1, -1, 0, 0), (0, 1)),), "endless", True, True, True),
            ((one,) * 8, "endless", False, True, True),
            ((("level", I, (0, 1)),) * 8, "one", True, False, False),
            ((("level", Q, (0, 1)),), "endless", True, False, True),
            ((("level", Q, (-1, BIG)),), "none", False, False, False),
            ((("level", I, (BIG, 1)),), "some", False, True, True),
            ((one, ("level", I, (1, 2))), "one", False, False, True),
            ((one, ("level", I, (1, 1))), "some", False, True, True),
            ((one, ("level", I, (BIG - 1, 2 * BIG))), "none", False, False, False),
            ((one, ("level", I, (BIG + 1, 2 * BIG))), "some", False, False, True),
            (
                (one, ("ratio", (1, 0, 1, 0), I, (1, 1)), ("ratio", (1, 0, 0, 1), I, (1, 1))), "endless", False, True,
                True,
            ),
            ((("ratio", Q, I, (1, 1)), ("ratio", (1, 0, 1, 0), I, (1, 1)), ("ratio", (1, 0, 0, 1), I, (1, 1))), "endless",
             True, True, False),
        ):
            with self.subTest(readings=readings):
                self.assertEqual(self.check_all(readings), sort)
                self.assertEqual((may_be_dark(readings), may_be_plain(readings)), (dark, plain))
                self.gives(pure, may_be_pure, readings)

    def test_pure_lights_are_found_where_they_may_be(self):
        # The lights that fit and read 0 behind one polariser are pure; where none may be, no such reading fits.
        draw, found = Draw(6), 0
        for family, readings in all_readings(7, 2):
            if len(readings) < 8 and family[2] != "none":
                for _ in range(6):
                    q, u, v, n = draw.kind(3)
                    light = any_light(readings + (("level", (n, q, u, v), (0, 1)),))
                    if light is not None and light != DARK:
                        found += 1
                        self.assertEqual(product(light[:4], light[:4]), 0)
                        self.assertTrue(may_be_pure(readings))
        self.assertGreater(found, 50)

    def test_fits(self):
        draw, seen = Draw(8), {True: 0, False: 0}
        for family, readings in all_readings(9, 1):
            lights = [DARK, PLAIN, ALONG, LAMP, draw.light(), draw.pure()]
            for light in lights + [any_light(readings) or PLAIN]:
                told = all(keeps(numbers_of(light), reading) for reading in readings)
                seen[told] += 1
                self.gives(told, fits, light, readings)
        self.assertGreater(min(seen.values()), 80)
        self.gives(True, fits, LAMP, ())
        self.gives(True, fits, (1, 1, 0, 0, 2), (("level", Q, (1, 1)), ("ratio", Q, I, (2, 1)), ("more", Q, I, (1, 2))))
        for reading in (("level", Q, (1, 2)), ("ratio", Q, I, (3, 2)), ("more", Q, I, (-1, 2)), ("more", I, Q, (1, 2))):
            self.gives(False, fits, (1, 1, 0, 0, 2), (("level", Q, (1, 1)), reading))

    def test_papers_by_which_one_reading_in_many_bars(self):
        draw = Draw(10)
        for family in FAMILIES:
            if family[2] == "none" and 0 < len(family[0]) < 4:
                extra = tuple([reading_of((2, 1, 0, 1), 5), reading_of((0, 0, 0, 0), 0)])
                readings = extra + plain_readings(family) + extra[:1] * 2
                self.assertEqual(self.check_all(readings), "none")
                self.assertEqual(self.check_all(turned_readings(draw, family, 8)), "none")

    def test_numbers_with_many_figures(self):
        huge = 10 ** 399
        for level, sort in ((2 * huge, "one"), (2 * huge - 1, "some"), (2 * huge + 2, "none")):
            readings = (("level", I, (huge, huge - 1)), ("level", Q, (level, huge - 1)))
            self.assertEqual(self.check_all(readings), sort)
        draw = Draw(11)
        for word in ("ratio", "more", "level"):
            for _ in range(3):
                looks = [(huge + draw.number(9), *draw.row(2, 9), 1) for _ in range(1 if word == "level" else 2)]
                self.check_all(((word, *looks, (huge, huge + 7)), LEVEL, ("level", (huge, 1, 0, huge - 1), (1, huge))))

    def test_wrong_arguments(self):
        some = Argument("readings", BRIGHT, InvalidReadings, (), wrong_lists(LEVEL, WRONG_READINGS, 8))
        for function in (what_fits, any_light, bar, may_be_dark, may_be_plain, may_be_pure):
            self.checks_arguments(function, some)
        self.checks_arguments(fits, Argument("light", LAMP, InvalidLight, WRONG_LIGHTS), some)


if __name__ == "__main__":
    unittest.main()
