"""Points [34] to [38] and platelights/rounds.py: the same stack again and again."""

import unittest
from fractions import Fraction

from platelights.errors import Dark, InvalidLight, InvalidNumber, InvalidStack, NotFading
from platelights.lights import is_light
from platelights.rounds import after_rounds, all_fade, comes_back, dark_after, echo, fades, last_level, mean_light
from platelights.rounds import unchanged_light, unchanged_span
from tests.cases import NO_WHOLES, Argument, Case
from tests.reckon import diagonal, led, numbers_of, pair_of, rank, row_of, rows_of_stack
from tests.values import BIG, HALF, LAMP, WRONG_LIGHTS, WRONG_PLATES, Draw, wrong_lists
from tests.values import ALONG as UP
from tests.values import SLANT as OVER
from tests.values import UPRIGHT as DOWN

DARK, PLAIN, ALONG, ACROSS = (0, 0, 0, 0, 1), (1, 0, 0, 0, 1), (1, 1, 0, 0, 1), (1, -1, 0, 0, 1)
CROSS, CYCLE, BLUR = (UP, ("turner", (0, 0, 0, 1))), (("turner", (1, 1, 1, 1)),), (("dull", (1, 2)),)
PART = (("partial", (1, 0, 0, 1), (1, 1), (1, 2)),)
STACKS = (
    (), CROSS, CYCLE, BLUR, (UP,), (UP, DOWN), (HALF,), (("grey", (0, 1)),), (("dull", (0, 1)),), (("glass",),),
    (("turner", (2, 1, 0, 0)),), (("turner", (2, 1, 0, 0)), UP), (("magnet", (1, 1)),), (("magnet", (1, 2)), ("glass",)),
    (("partial", (2, 1, 2, 3), (1, 1), (1, 2)),), (("partial", (1, 0, 0, 1), (1, 1), (0, 1)), OVER),
    (("partial", (1, 0, 0, 1), (1, 1), (1, 1)),), (("turner", (1, 1, 0, 0)), ("dull", (2, 3))), (UP, OVER),
    (("partial", (0, 0, 1, 1), (1, 1), (1, 2)), ("turner", (1, 0, 0, 3))), (("grey", (999, 1000)),), (UP,) * 8,
    (DOWN,), (("polariser", (0, -1, 0, 1)),), (("polariser", (0, 0, -1, 1)),), (("polariser", (0, 0, 1, 1)), ("glass",)),
    (("set", (1, 3), UP), ("magnet", (-1, 3))), (("dull", (1, 1)), ("grey", (1, 1))),
)


def some_stacks(seed, many):
    draw = Draw(seed)
    return list(STACKS) + [draw.stack(3) for _ in range(many)]


def some_lights(draw):
    return (DARK, PLAIN, ALONG, ACROSS, (3, 1, -2, 2, 4), draw.light(), draw.pure())


def loss_of(stack):
    """The rows that tell what numbers lose in a round."""
    rows = rows_of_stack(stack)
    return [[one - two for one, two in zip(line, row)] for line, row in zip(diagonal(1, 1, 1, 1), rows)]


def is_lost(stack, numbers):
    """Whether numbers are t - M t for some numbers t."""
    rows = loss_of(stack)
    return rank([row + [number] for row, number in zip(rows, numbers)]) == rank(rows)


def is_mean(stack, numbers, mean):
    """Whether a mean has the two properties of point [35]."""
    rest = [one - two for one, two in zip(numbers, mean)]
    return led(loss_of(stack), mean) == [0] * 4 and is_lost(stack, rest)


def level_far_on(stack, numbers):
    """The level after 2 ** 20 rounds, but for small errors."""
    rows = [[float(number) for number in row] for row in rows_of_stack(stack)]
    for _ in range(20):
        rows = [[sum(row[k] * rows[k][at] for k in range(4)) for at in range(4)] for row in rows]
    return sum(one * float(two) for one, two in zip(rows[0], numbers))


class RoundsTest(Case):

    def test_examples(self):
        self.gives((1, -1, 0, 0, 2), after_rounds, CROSS, PLAIN, 1)
        self.gives(2, dark_after, CROSS, PLAIN)
        self.gives(1, dark_after, (UP,), ACROSS)
        self.gives(None, dark_after, CYCLE, ALONG)
        self.gives(3, comes_back, CYCLE, ALONG)
        self.gives(None, comes_back, BLUR, ALONG)
        self.gives(1, comes_back, BLUR, PLAIN)
        self.gives((3, 1, 1, 1, 3), mean_light, CYCLE, ALONG)
        self.gives((1, 1), last_level, CYCLE, ALONG)
        self.gives(PLAIN, mean_light, BLUR, ALONG)
        self.gives(True, fades, (UP,), ACROSS)
        self.gives((1, 2), last_level, (UP,), PLAIN)
        self.gives(True, all_fade, CROSS)
        self.gives(False, all_fade, (UP,))
        self.gives(1, unchanged_span, (UP,))
        self.gives(4, unchanged_span, ())
        self.gives(2, unchanged_span, CYCLE)
        self.gives(None, unchanged_light, CROSS)
        self.gives((2, 2, 0, 0, 1), echo, (HALF,), ALONG)
        self.gives(ACROSS, echo, (UP,), ACROSS)

    def test_rounds(self):
        draw = Draw(1)
        for stack in some_stacks(2, 15):
            rows = rows_of_stack(stack)
            for light in (PLAIN, draw.light()):
                numbers, levels = numbers_of(light), []
                for many in range(25):
                    if many in (0, 1, 2, 3, 7, 23, 24):
                        self.gives(row_of(numbers), after_rounds, stack, light, many)
                    levels.append(numbers[0])
                    numbers = led(rows, numbers)
                self.assertEqual(levels, sorted(levels, reverse=True))
        self.gives(DARK, after_rounds, (UP,), DARK, 24)
        self.gives(LAMP, after_rounds, (), LAMP, 24)

    def test_dark_after(self):
        draw, seen = Draw(3), {}
        for stack in some_stacks(4, 60):
            rows = rows_of_stack(stack)
            for light in some_lights(draw):
                numbers, found = numbers_of(light), None
                for many in range(6):
                    if found is None and numbers == [0] * 4:
                        found = many
                    numbers = led(rows, numbers)
                seen[found] = seen.get(found, 0) + 1
                self.gives(found, dark_after, stack, light)
        self.assertEqual(set(seen), {None, 0, 1, 2})
        self.gives(0, dark_after, (), DARK)
        self.gives(2, dark_after, CROSS, ALONG)
        self.gives(1, dark_after, CROSS, ACROSS)
        self.gives(1, dark_after, (UP, DOWN), PLAIN)
        self.gives(1, dark_after, (("grey", (0, 1)),), ALONG)
        self.gives(None, dark_after, (), PLAIN)

    def test_mean_lights_and_last_levels(self):
        draw, faded = Draw(5), {True: 0, False: 0}
        for stack in some_stacks(6, 60):
            for light in some_lights(draw):
                mean = mean_light(stack, light)
                self.gives(mean, mean_light, stack, light)
                self.assertTrue(is_light(mean))
                numbers = numbers_of(mean)
                self.assertTrue(is_mean(stack, numbers_of(light), numbers))
                self.gives(pair_of(numbers[0]), last_level, stack, light)
                self.gives(mean == DARK, fades, stack, light)
                self.assertAlmostEqual(float(numbers[0]), level_far_on(stack, numbers_of(light)), 6)
                faded[mean == DARK] += light != DARK
        self.assertGreater(min(faded.values()), 30)

    def test_edges_of_mean_lights(self):
        for stack, light, mean in (
            ((), LAMP, LAMP), ((), DARK, DARK), ((UP,), PLAIN, (1, 1, 0, 0, 2)), ((UP,), (2, -1, 1, 1, 1), (1, 1, 0, 0, 2)),
            ((UP, OVER), PLAIN, DARK), ((("grey", (999, 1000)),), PLAIN, DARK), ((("dull", (999, 1000)),), ALONG, PLAIN),
            ((("glass",),), (2, 1, 0, 1, 1), (2, 1, 0, 0, 1)), ((("turner", (2, 1, 0, 0)),), (3, 1, 2, 1, 1), (3, 1, 0, 0, 1)),
            ((("magnet", (1, 0)),), (3, 1, 2, 1, 1), (3, 0, 0, 1, 1)), (PART, PLAIN, (1, 1, 0, 0, 2)),
            ((("polariser", (0, 0, 1, 1)), ("glass",)), PLAIN, DARK),
            ((UP,), (BIG, 1, 0, 0, BIG + 1), (1, 1, 0, 0, 2)),
        ):
            self.gives(mean, mean_light, stack, light)
            self.gives(pair_of(Fraction(mean[0], mean[4])), last_level, stack, light)
        # This light fades, though the stack leaves another one as it is.
        self.gives(True, fades, PART, ACROSS)
        self.gives(False, fades, PART, PLAIN)
        self.gives(True, fades, (UP,), DARK)

    def test_unchanged_lights(self):
        spans = [0] * 5
        for stack in some_stacks(7, 60):
            span = 4 - rank(loss_of(stack))
            spans[span] += 1
            self.gives(span, unchanged_span, stack)
            self.gives(span == 0, all_fade, stack)
            told = unchanged_light(stack)
            self.gives(told, unchanged_light, stack)
            self.assertEqual(told is None, span == 0)
            if told is not None:
                self.assertTrue(is_light(told) and told != DARK)
                self.assertEqual(led(rows_of_stack(stack), numbers_of(told)), numbers_of(told))
            else:
                for light in (PLAIN, ALONG, LAMP):
                    self.gives(True, fades, stack, light)
        self.assertGreater(min(spans), 0, spans)
        for stack, span in (
            ((), 4), ((("dull", (1, 1)),), 4), ((("glass",),), 3), (CYCLE, 2), ((("magnet", (1, 1)),), 2), (BLUR, 1),
            ((UP,), 1), (CROSS, 0), ((HALF,), 0), ((UP, OVER), 0), ((("turner", (0, 1, 0, 0)), ("glass",)), 3),
            ((("turner", (2, 1, 0, 0)), UP), 1), ((("turner", (2, 1, 0, 0)), OVER), 0), (CYCLE * 3, 4), (CYCLE * 4, 2),
        ):
            self.gives(span, unchanged_span, stack)

    def test_what_comes_back(self):
        draw, seen = Draw(8), {}
        turners = [(("turner", draw.turn(1)),) for _ in range(60)] + [(("turner", (3, 1, 1, 1)),), (("turner", (3, -1, 1, 1)),)]
        for stack in some_stacks(9, 30) + turners:
            rows = rows_of_stack(stack)
            for light in some_lights(draw):
                if light == DARK:
                    continue
                numbers, found = numbers_of(light), None
                for many in range(1, 25):
                    numbers = led(rows, numbers)
                    if numbers == numbers_of(light):
                        found = many
                        break
                seen[found] = seen.get(found, 0) + 1
                self.gives(found, comes_back, stack, light)
        self.assertEqual(set(seen), {None, 1, 2, 3, 4, 6})
        for stack, light, many in (
            ((), LAMP, 1), ((("turner", (0, 1, 0, 0)),), (1, 0, 1, 0, 1), 2), ((("turner", (0, 1, 0, 0)),), ALONG, 1),
            ((("turner", (1, 1, 0, 0)),), (1, 0, 1, 0, 1), 4), ((("turner", (3, 1, 1, 1)),), ALONG, 6),
            ((("turner", (3, 1, 1, 1)),), (3, 1, 1, 1, 1), 1), ((("turner", (2, 1, 0, 0)),), (1, 0, 1, 0, 1), None),
            ((("glass",),), (1, 0, 0, 1, 1), 2), ((UP,), ALONG, 1), ((UP,), PLAIN, None), (CROSS, PLAIN, None),
            ((("turner", (1, 1, 1, 1)), ("grey", (999, 1000))), PLAIN, None),
            ((("magnet", (1, 1)),), (2, 1, 0, 1, 1), 4), ((("magnet", (1, 0)),), (2, 1, 0, 1, 1), 2),
        ):
            self.gives(many, comes_back, stack, light)

    def test_dark_light_does_not_come_back(self):
        self.refuses(Dark, None, None, lambda: comes_back((), DARK))
        self.refuses(Dark, None, None, lambda: comes_back(stack=(UP,), light=DARK))
        self.refuses(InvalidStack, "index", 0, lambda: comes_back((None,), DARK))

    def test_echoes(self):
        draw, many = Draw(10), 0
        for stack in some_stacks(11, 60):
            for light in some_lights(draw):
                if not is_lost(stack, numbers_of(light)):
                    self.refuses(NotFading, None, None, lambda: echo(stack, light))
                    continue
                many += light != DARK
                told = echo(stack, light)
                self.gives(told, echo, stack, light)
                self.assertTrue(is_light(told))
                self.assertEqual(led(loss_of(stack), numbers_of(told)), numbers_of(light))
                self.assertTrue(is_lost(stack, numbers_of(told)))
        self.assertGreater(many, 60)
        for stack, light, told in (
            ((HALF,), PLAIN, (2, 0, 0, 0, 1)), ((UP,), DARK, DARK), ((), DARK, DARK), (CROSS, PLAIN, (3, -1, 0, 0, 2)),
            ((("grey", (999, 1000)),), PLAIN, (1000, 0, 0, 0, 1)), (PART, ACROSS, (4, -4, 0, 0, 3)),
            ((("grey", (0, 1)),), LAMP, LAMP), ((("dull", (1, 2)), HALF), ALONG, (6, 4, 0, 0, 3)),
            ((UP, OVER), PLAIN, (4, 0, 1, 0, 3)),
        ):
            self.gives(told, echo, stack, light)

    def test_not_fading_is_told_last(self):
        for stack, light in (((), PLAIN), ((UP,), PLAIN), (BLUR, ALONG), (CYCLE, LAMP)):
            self.refuses(NotFading, None, None, lambda: echo(stack, light))
        self.refuses(InvalidLight, "given", None, lambda: echo((), None))
        self.refuses(InvalidStack, "index", None, lambda: echo(None, None))

    def test_wrong_arguments(self):
        a_stack = Argument("stack", CROSS, InvalidStack, (), wrong_lists(UP, WRONG_PLATES, 8))
        a_light = Argument("light", LAMP, InvalidLight, WRONG_LIGHTS)
        for function in (all_fade, unchanged_light, unchanged_span):
            self.checks_arguments(function, a_stack)
        for function in (dark_after, mean_light, last_level, fades, comes_back, echo):
            self.checks_arguments(function, a_stack, a_light)
        a_number = Argument("many", 24, InvalidNumber, NO_WHOLES + (-1, 25, BIG, -BIG))
        self.checks_arguments(after_rounds, a_stack, a_light, a_number)


if __name__ == "__main__":
    unittest.main()
