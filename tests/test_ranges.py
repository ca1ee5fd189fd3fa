"""Points [48] and [49], and platelights/ranges.py: the ranges of further looks, and what readings settle."""

import unittest
from fractions import Fraction

from platelights.errors import InvalidLook, InvalidReading, InvalidReadings, NoLightFits
from platelights.fractions import is_surd, nearest
from platelights.ranges import is_kept, is_settled, level_range, looks_wanted, needed, say_the_same, settled_level
from platelights.ranges import settled_ratio
from platelights.readings import any_light, bar
from tests.cases import Argument, Case
from tests.reckon import bars_all_lights, compared_with_surd, dot, equation, keeps, numbers_of, pair_of, worth
from tests.unknown import FAMILIES, all_readings, boosts, fits_all, led_back, plain_readings, reading_of, some_that_fit
from tests.unknown import turned_readings
from tests.values import BIG, LEVEL, LOOK, WRONG_LOOKS, WRONG_READINGS, Draw, reduced, wrong_lists

I, Q, U, V = (1, 0, 0, 0), (1, 1, 0, 0), (1, 0, 1, 0), (1, 0, 0, 1)
BRIGHT = (("level", I, (1, 1)),)
HALF = (("ratio", (1, 1, 0, 0), (1, -1, 0, 0), (1, 1)),)
NONE = (("level", I, (-1, 1)),)
DIGITS = 30
STEP = Fraction(1, 10 ** DIGITS)


def whole(number):
    """The surd of a fraction."""
    return (pair_of(number), 0, (0, 1))


class RangesTest(Case):

    def test_examples(self):
        for readings, look, told in (
            (BRIGHT, (1, 1, 0, 0), (whole(0), True, whole(2), True)),
            (BRIGHT, (2, 1, 1, 0), (((2, 1), -1, (2, 1)), True, ((2, 1), 1, (2, 1)), True)),
            ((("level", (2, 1, 0, 0), (1, 1)),), (1, 0, 0, 0), (whole(Fraction(1, 3)), True, whole(1), True)),
            ((("level", (1, 1, 0, 0), (1, 1)),), (1, -1, 0, 0), (whole(0), True, None, False)),
            (HALF, (1, 1, 0, 0), (whole(0), True, None, False)),
        ):
            self.gives(told, level_range, readings, look)
        self.gives(False, is_settled, BRIGHT, (1, 1, 0, 0))
        self.gives((1, 1), settled_level, BRIGHT, (1, 0, 0, 0))
        self.gives((1, 1), settled_ratio, HALF, (1, 1, 0, 0), (1, 0, 0, 0))
        self.gives(4, looks_wanted, ())
        self.gives(3, looks_wanted, BRIGHT)
        self.gives(3, looks_wanted, HALF)
        self.gives((0,), needed, BRIGHT + BRIGHT)

    def check_read(self, readings, look, level, is_read):
        """Check, by a light or by a paper, whether a look may read a level of the lights that fit."""
        more = readings + (("level", look, pair_of(level)),)
        if is_read:
            light = any_light(more)
            self.assertTrue(light is not None and fits_all(light, more), (more, light))
        else:
            self.assertTrue(bars_all_lights(more, bar(more)), more)

    def check_range(self, readings, look):
        """Check the range of a look over the lights that fit at most seven readings, by lights and papers beside it."""
        told = level_range(readings, look)
        self.gives(told, level_range, readings, look)
        low, low_read, high, high_read = told
        self.assertTrue(is_surd(low) and (high is None or is_surd(high)))
        self.assertTrue(type(low_read) is type(high_read) is bool)
        below = Fraction(nearest(low, DIGITS), 10 ** DIGITS)
        self.check_read(readings, look, below - STEP, False)
        if low[1] == 0:
            self.check_read(readings, look, worth(low[0]), low_read)
        else:
            self.assertTrue(low_read)
        if low == high:
            self.assertTrue(low_read and high_read)
            self.check_read(readings, look, below + 2 * STEP, False)
            return told
        self.check_read(readings, look, below + 2 * STEP, True)
        if high is None:
            self.assertFalse(high_read)
            self.check_read(readings, look, below + BIG, True)
            return told
        above = Fraction(nearest(high, DIGITS), 10 ** DIGITS)
        self.assertTrue(high_read)
        self.check_read(readings, look, above + 2 * STEP, False)
        self.check_read(readings, look, above - STEP, True)
        if high[1] == 0:
            self.check_read(readings, look, worth(high[0]), True)
        return told

    def test_ranges_of_each_sort(self):
        draw, seen = Draw(1), {}
        for family, readings in all_readings(2, 3):
            if family[2] == "none" or len(readings) > 7:
                continue
            for look in (I, draw.look(), draw.look(), reduced(draw.pure()[:4])):
                with self.subTest(readings=readings, look=look):
                    low, low_read, high, _ = self.check_range(readings, look)
                    key = (family[2], family[6], low == high, low_read, low[1], high is None)
                    seen[key] = seen.get(key, 0) + 1
                    settled = low == high
                    self.gives(settled, is_settled, readings, look)
                    self.gives(low[0] if settled else None, settled_level, readings, look)
        for key in (
            ("endless", "inward", False, True, 0, True), ("endless", "inward", False, True, 1, True),
            ("endless", "grazing", False, True, 0, True), ("some", "outward", False, True, -1, False),
            ("some", "outward", False, True, 0, False), ("some", "outward", True, True, 0, False),
            ("one", "outward", True, True, 0, False),
        ):
            self.assertGreater(seen.get(key, 0), 1, (key, seen))

    def test_ends_that_are_not_read(self):
        # Inward steps with a pure row among them, that the look reads alone: 0 is come near, and read of dark alone.
        draw, readings = Draw(3), (reading_of((0, 0, 1, 0), 2),)
        for look in ((1, 1, 0, 0), (1, -1, 0, 0), V):
            self.gives((whole(0), False, None, False), level_range, readings, look)
            self.check_range(readings, look)
            self.gives((whole(0), True, None, False), level_range, (reading_of((0, 0, 1, 0), 0),), look)
        for _ in range(20):
            boost = boosts(draw)
            for row, number, read in (((0, 0, 1, 0), 3, False), ((0, 0, 1, 0), 0, True), ((0, 0, 0, 1), -1, False)):
                led = led_back([Fraction(one) for one in row], boost)
                look = led_back([Fraction(one) for one in (1, 1, 0, 0)], boost)
                readings = (reading_of(self.as_whole(led), number),)
                told = self.check_range(readings, self.as_whole(look))
                self.assertEqual(told, (whole(0), read, None, False))
        # Beside a second equation just two pure looks come near to 0.
        readings = (reading_of((0, 0, 1, 0), 1), reading_of((0, 0, 0, 1), 0))
        for look, read in ((Q, False), ((1, -1, 0, 0), False), (U, True), ((1, 0, -1, 0), True), (V, True)):
            self.assertEqual(self.check_range(readings, look)[1], read)

    def as_whole(self, row):
        """A row of fractions times a number above 0, whole and without a common divisor."""
        below = 1
        for number in row:
            below *= number.denominator
        return reduced([int(number * below) for number in row])

    def test_edges_of_ranges(self):
        for readings, look, told in (
            ((), I, (whole(0), True, None, False)), ((), Q, (whole(0), True, None, False)),
            ((reading_of((0, 1, 0, 0), 1),), I, (whole(1), True, None, False)),
            ((reading_of((0, 1, 0, 0), -3),), (2, 0, 0, 1), (((0, 1), 1, (27, 1)), True, None, False)),
            ((reading_of((0, 1, 0, 0), 1),), Q, (whole(2), True, None, False)),
            ((reading_of((0, 1, 0, 0), 1),), (1, -1, 0, 0), (whole(0), True, None, False)),
            ((reading_of((0, 1, 0, 0), 1), reading_of((0, 0, 1, 0), 1)), I, (((0, 1), 1, (2, 1)), True, None, False)),
            ((reading_of((1, 1, 0, 0), 1),), Q, (whole(1), True, whole(1), True)),
            ((reading_of((1, 1, 0, 0), 1),), I, (whole(Fraction(1, 2)), True, None, False)),
            ((reading_of((1, 1, 0, 0), 2),), (1, -1, 0, 0), (whole(0), True, None, False)),
            ((reading_of((1, 1, 0, 0), 2),), U, (whole(0), True, None, False)),
            ((reading_of((1, 1, 0, 0), 1), reading_of((0, 0, 1, 0), 2)), I, (whole(Fraction(5, 2)), True, None, False)),
            ((reading_of((1, 1, 0, 0), 1), reading_of((0, 0, 1, 0), 2)), Q, (whole(1), True, whole(1), True)),
            ((reading_of((1, 1, 0, 0), 0),), Q, (whole(0), True, whole(0), True)),
            ((reading_of((1, 1, 0, 0), 0),), I, (whole(0), True, None, False)),
            ((reading_of((1, 1, 0, 0), 0),), (1, -1, 0, 0), (whole(0), True, None, False)),
            (BRIGHT, I, (whole(1), True, whole(1), True)), (BRIGHT * 8, U, (whole(0), True, whole(2), True)),
            ((("level", I, (1, 2)),), (3, 2, 2, 1), (whole(0), True, whole(3), True)),
            ((("level", I, (0, 1)),), (3, 2, 2, 1), (whole(0), True, whole(0), True)),
            ((("level", I, (1, 1)), ("level", Q, (2, 1))), U, (whole(1), True, whole(1), True)),
            ((("level", I, (1, 1)), ("level", Q, (1, 1))), U, (whole(0), True, whole(2), True)),
            (
                (("level", I, (1, 1)), ("level", Q, (1, 1))), (2, 0, 1, 1),
                (((2, 1), -1, (2, 1)), True, ((2, 1), 1, (2, 1)), True),
            ),
            ((("level", I, (1, 1)), ("level", Q, (3, 2))), U, (((1, 1), -1, (3, 4)), True, ((1, 1), 1, (3, 4)), True)),
        ):
            with self.subTest(readings=readings, look=look):
                self.gives(told, level_range, readings, look)
                if len(readings) < 8:
                    self.check_range(readings, look)

    def samples(self, seed, many):
        """Families, readings that some light fits, and lights that fit them and span what all that fit span."""
        draw = Draw(seed)
        for family, readings in all_readings(seed, many):
            if family[2] != "none" and len(readings) < 7:
                lights = some_that_fit(draw, readings, family[3])
                self.assertGreaterEqual(len(lights), family[3] + 1)
                yield draw, family, readings, [numbers_of(light) for light in lights]

    def test_looks_wanted(self):
        # So many lights fit as span these dimensions, and no more, by the families.
        for _, family, readings, _ in self.samples(4, 2):
            self.gives(family[3], looks_wanted, readings)
        for readings, told in (
            (BRIGHT * 8, 3), ((("level", I, (0, 1)),), 0), ((("level", Q, (0, 1)),), 1), ((("level", Q, (1, 1)),), 3),
            ((("ratio", I, I, (1, 1)),), 4), ((("ratio", Q, U, (1, 1)), ("level", I, (1, 1))), 2),
        ):
            self.gives(told, looks_wanted, readings)

    def test_further_looks_tell_the_light(self):
        # With the wanted looks along unlike steps at most one light fits whatever they read; here of one that fits.
        seen = 0
        for _, family, readings, lights in self.samples(5, 1):
            if len(readings) > 4:
                continue
            told = readings
            for look in (I, Q, U, V):
                if looks_wanted(told) > 0 and not is_settled(told, look):
                    told += (("level", look, pair_of(dot(look, lights[-1]))),)
            self.assertEqual(looks_wanted(told), 0)
            self.assertLessEqual(len(told) - len(readings), family[3])
            self.assertEqual(numbers_of(any_light(told)), lights[-1])
            seen += len(told) - len(readings) == family[3]
        self.assertGreater(seen, 25)

    def test_settled_ratios(self):
        seen = {True: 0, False: 0}
        for draw, family, readings, lights in self.samples(6, 2):
            looks = [draw.look(2) for _ in range(3)] + [I, Q]
            looks += [reading[1] for reading in readings[:2]] + [reading[2] for reading in readings[:2]]
            for look in looks[:4] + looks[5:]:
                other = draw.chance.choice(looks)
                pairs = [(dot(look, numbers), dot(other, numbers)) for numbers in lights]
                seen_pairs = [pair for pair in pairs if pair[1] != 0]
                told = None
                if seen_pairs:
                    part = seen_pairs[0][0] / seen_pairs[0][1]
                    told = pair_of(part) if all(one == part * two for one, two in pairs) else None
                seen[told is None] += 1
                self.gives(told, settled_ratio, readings, look, other)
        self.assertGreater(min(seen.values()), 60)
        for readings, look, other, told in (
            ((("level", I, (0, 1)),), I, I, None), ((("level", Q, (0, 1)),), Q, I, (0, 1)), ((), I, I, (1, 1)),
            ((), I, Q, None),
            ((("level", Q, (0, 1)),), I, Q, None), ((("level", Q, (0, 1)),), Q, Q, None),
            ((("level", Q, (0, 1)),), (1, -1, 0, 0), I, (2, 1)),
            (BRIGHT, Q, I, None), (BRIGHT, I, Q, None), (BRIGHT, I, (2, 0, 0, 1), None),
            (HALF, (1, -1, 0, 0), I, (1, 1)),
            ((("ratio", Q, I, (3, 2)),), (1, -1, 0, 0), I, (1, 2)),
            ((("ratio", Q, I, (3, 2)),), (1, -1, 0, 0), Q, (1, 3)),
            ((("level", Q, (2, 1)), ("level", I, (1, 1))), U, Q, (1, 2)),
            ((("level", Q, (2, 1)), ("level", I, (1, 1))), (1, -1, 0, 0), Q, (0, 1)),
            ((("level", Q, (2, 1)), ("level", I, (1, 1))), Q, (1, -1, 0, 0), None),
            ((("level", I, (1, 1)), ("level", Q, (3, 2))), Q, I, (3, 2)),
            ((("level", I, (1, 1)), ("level", Q, (3, 2))), U, I, None),
        ):
            self.gives(told, settled_ratio, readings, look, other)

    def test_readings_that_are_kept(self):
        seen = {True: 0, False: 0}
        for draw, family, readings, lights in self.samples(7, 2):
            further = [draw.reading(2) for _ in range(2)] + list(readings)
            levels = [dot(look, lights[0]) for look in (I, Q, U, draw.look())]
            further += [("level", look, pair_of(level)) for look, level in zip((I, Q, U), levels)]
            further += [("more", Q, U, pair_of(levels[1] - levels[2])), ("more", I, I, (0, 1)), ("more", I, I, (1, 1))]
            if len(readings) > 1:
                (row, number), (other, beside) = equation(readings[0]), equation(readings[1])
                mixed = [2 * one - 3 * two for one, two in zip(row, other)]
                further += [reading_of(mixed, 2 * number - 3 * beside), reading_of(mixed, 2 * number - 3 * beside + 1)]
            for reading in further:
                told = all(keeps(numbers, reading) for numbers in lights)
                seen[told] += 1
                self.gives(told, is_kept, readings, reading)
        self.assertGreater(min(seen.values()), 200)

    def test_what_is_kept_of_one_light_and_of_multiples_of_one(self):
        dark, one = (("level", I, (0, 1)),), (("level", I, (1, 1)), ("level", Q, (2, 1)))
        ray = (("level", Q, (0, 1)),)
        for readings, reading, told in (
            (dark, ("level", V, (0, 1)), True), (dark, ("level", V, (1, 9)), False),
            (dark, ("ratio", Q, V, (-7, 3)), True),
            (dark, ("more", Q, V, (0, 1)), True), (one, ("level", U, (1, 1)), True), (one, ("level", U, (0, 1)), False),
            (one, ("ratio", U, V, (1, 1)), True), (one, ("ratio", Q, V, (2, 1)), True),
            (one, ("more", Q, V, (1, 1)), True),
            (one, ("more", V, Q, (1, 1)), False), (ray, ("ratio", U, I, (1, 1)), True),
            (ray, ("level", U, (0, 1)), False),
            (ray, ("more", V, I, (0, 1)), True), (ray, ("more", V, I, (1, 1)), False),
            (ray, ("ratio", Q, U, (0, 1)), True),
            (ray, ("level", Q, (0, 1)), True), (ray, ("ratio", U, I, (2, 1)), False),
            ((), ("ratio", I, I, (1, 1)), True),
            ((), ("ratio", I, I, (2, 1)), False), (BRIGHT, ("level", Q, (1, 1)), False),
            (BRIGHT, ("level", I, (2, 1)), False),
        ):
            self.gives(told, is_kept, readings, reading)

    def test_needed_readings(self):
        lengths = {}
        for draw, _, readings, _ in self.samples(8, 3):
            kept = list(range(len(readings)))
            for at in reversed(range(len(readings))):
                others = [place for place in kept if place != at]
                row, number = equation(readings[at])
                told = tuple([readings[place] for place in others])
                # Settled means that nothing else is read: looked for among lights that fit the others.
                if is_kept(told, readings[at]):
                    for light in some_that_fit(draw, told, looks_wanted(told)):
                        self.assertEqual(dot(row, numbers_of(light)), number)
                    kept = others
                else:
                    lights = [numbers_of(light) for light in some_that_fit(draw, told, looks_wanted(told))]
                    self.assertTrue(any(dot(row, numbers) != number for numbers in lights))
            lengths[len(readings) - len(kept)] = lengths.get(len(readings) - len(kept), 0) + 1
            self.gives(tuple(kept), needed, readings)
        self.assertGreater(len(lengths), 3)
        q, i, u = ("level", Q, (2, 1)), ("level", I, (1, 1)), ("level", U, (1, 1))
        away = ("level", (1, -1, 0, 0), (0, 1))
        for readings, told in (
            ((), ()), (BRIGHT, (0,)), (BRIGHT * 8, (0,)), ((q, i), (0, 1)), ((q, i, u), (0, 1)), ((q, u, i), (0, 2)),
            ((u, q, i), (1, 2)), ((u, i, q), (1, 2)), ((q, away), (0, 1)), ((q, i, away), (0, 1)),
            ((away, q, i), (0, 1)),
            ((("more", I, I, (0, 1)), q), (1,)), ((q, ("more", Q, I, (1, 1)), i), (0, 1)),
            ((("ratio", U, U, (1, 1)),), ()),
            ((q, i, ("ratio", U, V, (1, 1))), (0, 1)), ((("ratio", U, V, (1, 1)), q, i), (1, 2)),
        ):
            with self.subTest(readings=readings):
                self.gives(told, needed, readings)

    def test_tuples_that_say_the_same(self):
        draw, seen = Draw(9), {True: 0, False: 0}
        alike = [
            ((), (("ratio", I, I, (1, 1)),)), ((("level", I, (0, 1)),), (("ratio", Q, I, (-1, 1)),)),
            (NONE, (("level", Q, (-3, 1)),)),
            (BRIGHT, BRIGHT * 8), ((("level", Q, (0, 1)),), (("ratio", (1, -1, 0, 0), I, (2, 1)),)),
            (NONE, BRIGHT + NONE),
            ((("level", Q, (0, 1)),), (("ratio", U, I, (1, 1)), ("level", Q, (0, 1)), ("ratio", V, I, (1, 1)))),
            ((("level", I, (1, 1)), ("level", Q, (2, 1))), tuple([("level", look, level) for look, level in (
                (I, (1, 1)), (Q, (2, 1)), (U, (1, 1)), (V, (1, 1)))])),
            ((("level", I, (0, 1)),), (("ratio", I, Q, (3, 1)), ("ratio", I, U, (3, 1)), ("ratio", I, V, (0, 1)))),
            (HALF, (("more", (1, 1, 0, 0), (1, -1, 0, 0), (0, 1)),)), (HALF, (("ratio", Q, I, (1, 1)),)),
            ((("ratio", I, I, (2, 1)),), (("level", I, (0, 1)),)), (NONE, (("more", I, I, (1, 1)),)),
        ]
        unlike = [
            ((), BRIGHT), (BRIGHT, NONE), (NONE, ()), (BRIGHT, (("level", I, (2, 1)),)), (BRIGHT, BRIGHT + HALF),
            (HALF, ()),
            ((("level", Q, (0, 1)),), (("level", U, (0, 1)),)), ((("level", I, (0, 1)),), (("level", Q, (0, 1)),)),
            ((("level", I, (1, 1)), ("level", Q, (2, 1))), (("level", I, (1, 1)), ("level", U, (2, 1)))),
            ((("level", I, (1, 1)), ("level", Q, (2, 1))), (("level", I, (2, 1)), ("level", Q, (4, 1)))),
        ]
        for told, pairs in ((True, alike), (False, unlike)):
            for one, two in pairs:
                self.gives(told, say_the_same, one, two)
                self.gives(told, say_the_same, two, one)
                self.gives(True, say_the_same, one, one)
        for _, family, readings, lights in self.samples(10, 1):
            boosted = self.mixed(draw, readings)
            self.gives(True, say_the_same, readings, boosted)
            self.gives(True, say_the_same, boosted, readings)
            for further in (draw.reading(2), ("level", I, pair_of(lights[0][0])), ("more", Q, U, pair_of(lights[0][1] - lights[0][2]))):
                told = all(keeps(numbers, further) for numbers in lights)
                seen[told] += 1
                self.gives(told, say_the_same, readings, readings + (further,))
                self.gives(told, say_the_same, (further,) + readings, readings)
        self.assertGreater(min(seen.values()), 20)
        for family in FAMILIES:
            if family[2] == "none":
                self.gives(True, say_the_same, plain_readings(family), turned_readings(draw, family, 3))

    def mixed(self, draw, readings):
        """Readings with other rows that say the same: each one and the next one added."""
        pairs = [equation(reading) for reading in readings]
        told = []
        for at, (row, number) in enumerate(pairs):
            if at > 0:
                row, number = [one + two for one, two in zip(row, pairs[at - 1][0])], number + pairs[at - 1][1]
            below = 1
            for part in row:
                below *= part.denominator
            told.append(reading_of([part * below for part in row], number * below))
        draw.chance.shuffle(told)
        return tuple(told)

    def test_no_light_fits_is_told_last(self):
        for function, rest, error, wrong in (
            (level_range, (I,), InvalidLook, (None,)), (is_settled, (I,), InvalidLook, (None,)),
            (settled_level, (I,), InvalidLook, (None,)),
            (settled_ratio, (I, Q), InvalidLook, (I, None)), (is_kept, (LEVEL,), InvalidReading, (None,)),
        ):
            for readings in (NONE, NONE + BRIGHT, (("more", I, I, (1, 2)),)):
                self.refuses(NoLightFits, None, None, lambda: function(readings, *rest))
                self.refuses(error, "given", None, lambda: function(readings, *wrong))
        for function in (needed, looks_wanted):
            for readings in (NONE, BRIGHT + (("level", Q, (3, 1)),), NONE * 8):
                self.refuses(NoLightFits, None, None, lambda: function(readings))
            self.refuses(InvalidReadings, "index", 1, lambda: function(NONE + (None,)))
        self.gives(False, say_the_same, NONE, BRIGHT)
        self.gives(True, say_the_same, NONE, (("level", I, (-2, 1)),))

    def test_numbers_with_many_figures(self):
        huge = 10 ** 399
        readings = (
            ("level", (huge + 1, 1, 0, huge - 1), (huge, huge + 7)), ("ratio", (huge, 2, 0, 1), LOOK, (huge + 1, 2)),
        )
        for many in (0, 1, 2):
            low, _, high, _ = level_range(readings[:many], (huge, huge - 1, 3, 0))
            self.assertTrue(is_surd(low) and (high is None or is_surd(high)))
            light = any_light(readings[:many])
            level = dot((huge, huge - 1, 3, 0), numbers_of(light))
            self.assertGreaterEqual(compared_with_surd(level, low), 0)
            self.assertTrue(high is None or compared_with_surd(level, high) <= 0)

    def test_wrong_arguments(self):
        some = Argument("readings", BRIGHT, InvalidReadings, (), wrong_lists(LEVEL, WRONG_READINGS, 8))
        a_look = Argument("look", LOOK, InvalidLook, WRONG_LOOKS)
        for function in (needed, looks_wanted):
            self.checks_arguments(function, some)
        for function in (level_range, is_settled, settled_level):
            self.checks_arguments(function, some, a_look)
        self.checks_arguments(settled_ratio, some, a_look, Argument("other", I, InvalidLook, WRONG_LOOKS))
        self.checks_arguments(is_kept, some, Argument("reading", LEVEL, InvalidReading, WRONG_READINGS))
        others = Argument("others", (LEVEL,), InvalidReadings, (), wrong_lists(LEVEL, WRONG_READINGS, 8))
        self.checks_arguments(say_the_same, some, others)


if __name__ == "__main__":
    unittest.main()
