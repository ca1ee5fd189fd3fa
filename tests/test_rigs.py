"""Points [25], [26], [29] and platelights/rigs.py: plates on a handle, their courses and what these tell of a light."""

import unittest

from platelights.courses import course_less, course_of
from platelights.errors import InvalidCourse, InvalidLight, InvalidLook, InvalidRig, InvalidSetting, NotTold
from platelights.plates import is_stack
from platelights.rigs import course_of_rig, is_idle, is_rig, light_of_course, parting_setting, rig_rank, same_rigs
from platelights.rigs import stack_at
from tests.cases import Argument, Case
from tests.reckon import dot, led, level_of, multiplied, numbers_of, rank, rows_of_plate, rows_of_setting, rows_of_stack
from tests.values import ALONG, BIG, LAMP, SLANT, UPRIGHT, WRONG_COURSES, WRONG_LIGHTS, WRONG_LOOKS, WRONG_RIGS
from tests.values import WRONG_SETTINGS, Draw, reduced

WHOLE = (1, 0, 0, 0)
ONE, CROSSED = ((), ALONG, ()), ((ALONG,), ("turner", (0, 1, 0, 0)), (UPRIGHT,))
QUARTER, SLANT_QUARTER = [((), ("turner", (1, 1, 0, 0)), (last,)) for last in (ALONG, SLANT)]
MALUS = (1, 0, 1, 0, 0, 1)
NOUGHT = (0, 0, 0, 0, 0, 1)
SETTINGS = ((0, 1), (1, 0), (1, 1), (-1, 1), (1, 2), (3, 1), (-2, 5), (7, 3), (-5, 1), (1, 9), (4, 7), (-3, 4))
DARK_RIG = ((("grey", (0, 1)),), ALONG, ())


def look(draw):
    """A look: a light's four numbers, not all 0."""
    row = (0, 0, 0, 0)
    while row == (0, 0, 0, 0):
        row = reduced(draw.light(3)[:4])
    return row


def rig(draw, most=2):
    first, last = draw.stack(most), draw.stack(most)
    return (first, draw.plate(), last)


def rows_at(told, setting):
    """The sixteen numbers of a rig at a setting, by the turned plate's own rows."""
    first, plate, last = told
    a, b = setting
    back = setting if b == 0 else (-a, b)
    middle = multiplied(multiplied(rows_of_setting(a, b), rows_of_plate(plate)), rows_of_setting(*back))
    return multiplied(rows_of_stack(last), multiplied(middle, rows_of_stack(first)))


class RigsTest(Case):

    def test_what_is_a_rig(self):
        draw = Draw(1)
        rigs = [rig(draw, 3) for _ in range(20)] + [ONE, CROSSED, QUARTER, ((ALONG,) * 7, ALONG, ())]
        rigs += [((), ALONG, (ALONG,) * 7), ((ALONG,) * 3, ("set", (1, 1), ALONG), (ALONG,) * 4)]
        for told in rigs:
            self.gives(True, is_rig, told)
        for number, value in enumerate(WRONG_RIGS):
            with self.subTest(number=number):
                self.gives(False, is_rig, value)

    def test_examples(self):
        self.gives((1, 0, 1, 0, 0, 1), course_of_rig, ONE, (1, 1, 0, 0, 1), WHOLE)
        self.gives((0, 0, 2, 0, 0, 1), course_of_rig, CROSSED, (1, 0, 0, 0, 1), WHOLE)
        self.gives((1, 2, 2, 2, 1, 2), course_of_rig, QUARTER, (1, 0, 0, 1, 1), WHOLE)
        self.gives((("set", (1, 1), ALONG),), stack_at, ONE, (1, 1))
        self.gives((("set", (1, 0), ALONG),), stack_at, ((), ("set", (1, 1), ALONG), ()), (1, 1))
        self.gives(3, rig_rank, ONE, WHOLE)
        self.gives(4, rig_rank, QUARTER, WHOLE)
        self.gives((1, 0, 0, 1, 1), light_of_course, QUARTER, WHOLE, (1, 2, 2, 2, 1, 2))
        self.gives(None, light_of_course, QUARTER, WHOLE, MALUS)
        self.gives(False, is_idle, ONE)
        self.gives(True, is_idle, ((), ("grey", (1, 2)), ()))
        self.gives(True, is_idle, ((), ("turner", (1, 0, 0, 1)), ()))

    def test_stacks_at_settings(self):
        self.gives((("set", (0, 1), ALONG),), stack_at, ONE, (0, 1))
        self.gives((("set", (1, 0), ALONG),), stack_at, ONE, (1, 0))
        around = ((SLANT,), ("glass",), (UPRIGHT, SLANT))
        self.gives((SLANT, ("set", (-1, 2), ("glass",)), UPRIGHT, SLANT), stack_at, around, (-1, 2))
        set_one = ((UPRIGHT,), ("set", (2, 1), ("magnet", (1, 3))), (SLANT,))
        self.gives((UPRIGHT, ("set", (-4, 3), ("magnet", (1, 3))), SLANT), stack_at, set_one, (2, 1))
        self.gives((UPRIGHT, ("set", (2, 1), ("magnet", (1, 3))), SLANT), stack_at, set_one, (0, 1))
        self.gives((UPRIGHT, ("set", (-1, 2), ("magnet", (1, 3))), SLANT), stack_at, set_one, (1, 0))
        self.gives((UPRIGHT, ("set", (0, 1), ("magnet", (1, 3))), SLANT), stack_at, set_one, (-2, 1))
        self.gives((("set", (0, 1), ALONG),), stack_at, ((), ("set", (1, 0), ALONG), ()), (1, 0))
        draw = Draw(2)
        for _ in range(40):
            told, setting = rig(draw), draw.setting()
            stack = stack_at(told, setting)
            self.gives(stack, stack_at, told, setting)
            self.assertTrue(is_stack(stack))
            self.assertEqual(rows_of_stack(stack), rows_at(told, setting))
        self.assertEqual(len(stack_at(((ALONG,) * 3, ALONG, (SLANT,) * 4), (1, 1))), 8)

    def test_courses_of_rigs(self):
        draw = Draw(3)
        for number in range(40):
            told, light, how = rig(draw), draw.light(), look(draw)
            course = course_of_rig(told, light, how)
            self.gives(course, course_of_rig, told, light, how)
            for setting in SETTINGS:
                level = dot(how, led(rows_at(told, setting), numbers_of(light)))
                self.assertEqual(level_of(course, setting), level, number)

    def test_courses_without_light(self):
        for told in (DARK_RIG, ((ALONG, UPRIGHT), SLANT, ()), ((), SLANT, (ALONG, UPRIGHT)), ((), ("grey", (0, 1)), ())):
            self.gives(NOUGHT, course_of_rig, told, (1, 1, 0, 0, 1), WHOLE)
            self.gives(0, rig_rank, told, WHOLE)
            self.gives(True, is_idle, told)
        self.gives(NOUGHT, course_of_rig, ONE, (0, 0, 0, 0, 1), WHOLE)

    def test_full_rigs(self):
        full = (tuple([("dull", (1, 2)), SLANT, ("glass",)]), ("set", (1, 3), ("partial", (2, 1, 2, 3), (1, 2), (1, 3))),
                tuple([("turner", (1, 2, 3, 4)), ("magnet", (1, 2)), ("set", (1, 1), ("turner", (1, 1, 1, 0))), ALONG]))
        course = course_of_rig(full, (BIG, 1, 2, 3, BIG + 7), WHOLE)
        for setting in SETTINGS:
            level = led(rows_at(full, setting), numbers_of((BIG, 1, 2, 3, BIG + 7)))[0]
            self.assertEqual(level_of(course, setting), level)

    def test_idle_rigs(self):
        draw = Draw(4)
        idle = [((), ("magnet", (1, 2)), ()), ((SLANT,), ("glass",), (("dull", (1, 3)),)), ((), ("dull", (1, 2)), ()),
                ((), ("turner", (2, 0, 0, 3)), ()), ((), ("polariser", (0, 0, 1, 1)), ()), ((), ("turner", (1, 0, 0, 0)), ()),
                ((), ("partial", (0, 0, -1, 1), (1, 2), (1, 3)), ()), ((), ("partial", (1, 0, 0, 1), (1, 2), (1, 2)), ()),
                ((), ("set", (1, 2), ("magnet", (3, 2))), ()), ((("polariser", (0, 0, 1, 1)),), ("turner", (0, 1, 0, 0)), ())]
        busy = [ONE, CROSSED, QUARTER, ((), ("turner", (0, 1, 0, 0)), ()), ((), ("partial", (1, 0, 0, 1), (1, 2), (1, 3)), ()),
                ((), ("set", (1, 2), SLANT), ()), ((("polariser", (0, 0, 1, 1)),), ALONG, ())]
        for told in idle + busy + [rig(draw) for _ in range(30)]:
            same = all(rows_at(told, setting) == rows_at(told, (0, 1)) for setting in SETTINGS)
            if told in idle + busy:
                self.assertEqual(same, told in idle, told)
            self.gives(same, is_idle, told)

    def check_pair(self, one, two):
        """Check what is told of two rigs; whether they are the same."""
        same = all(rows_at(one, setting) == rows_at(two, setting) for setting in SETTINGS)
        self.gives(same, same_rigs, one, two)
        told = parting_setting(one, two)
        self.gives(told, parting_setting, one, two)
        if same:
            self.assertIsNone(told)
        else:
            self.assertNotEqual(rows_at(one, told), rows_at(two, told))
        return same

    def test_same_rigs(self):
        draw = Draw(5)
        for _ in range(20):
            told, other = rig(draw), rig(draw)
            self.assertTrue(self.check_pair(told, told))
            self.check_pair(told, other)
            first, plate, last = told
            self.assertTrue(self.check_pair(told, (first + (("grey", (1, 1)),), plate, last)))
        for one, two in (
            (((), ALONG, ()), ((), ("partial", (1, 0, 0, 1), (1, 1), (0, 1)), ())), (ONE, ((), ("set", (0, 1), ALONG), ())),
            (((ALONG, UPRIGHT), SLANT, ()), DARK_RIG), (((), ("glass",), ()), ((("glass",),), ("magnet", (0, 1)), ())),
            (((), ("set", (1, 0), UPRIGHT), ()), ((), ALONG, ())), (((), ("set", (1, 1), SLANT), ()), ((), UPRIGHT, ())),
            (((), ("turner", (1, 0, 0, 2)), ()), ((("magnet", (2, 1)),), ("glass",), (("glass",),))),
        ):
            self.assertTrue(self.check_pair(one, two), (one, two))

    def test_rigs_that_part(self):
        crossed = ((ALONG,), ALONG, (ALONG,))
        for one, two in (
            (ONE, CROSSED), (ONE, ((), UPRIGHT, ())), (ONE, ((), ("set", (1, 2), ALONG), ())), (ONE, DARK_RIG),
            (((), ("set", (1, 1), ALONG), ()), ((), ("set", (-1, 1), ALONG), ())), (crossed, ((), ALONG, ())),
            # These are alike at the settings (0, 1) and (1, 0), where nothing is let through by either.
            (((ALONG,), ("turner", (0, 1, 0, 0)), (UPRIGHT,)), ((ALONG,), ("turner", (1, 1, 0, 0)), (UPRIGHT,))),
            # And these at all but (1, 1) and (-1, 1) of the settings (0, 1), (1, 0), (1, 1), (-1, 1).
            (((), ("turner", (0, 1, 0, 0)), ()), ((), ("turner", (0, 0, 1, 0)), ())),
        ):
            self.assertFalse(self.check_pair(one, two), (one, two))

    def rank_of(self, told, how):
        """The rank of a rig by its levels at many settings."""
        rows = [led([list(column) for column in zip(*rows_at(told, setting))], how) for setting in SETTINGS]
        return rank(rows)

    def test_ranks(self):
        around = ((), ("polariser", (0, 0, 1, 1)), ())
        for many, told, how in (
            (0, DARK_RIG, WHOLE), (0, ((), ALONG, (ALONG,)), (1, -1, 0, 0)), (0, ((), ("grey", (0, 1)), ()), WHOLE),
            (1, ((), ("glass",), ()), WHOLE), (1, ((), ("glass",), ()), (2, 1, 0, 1)), (1, ((ALONG,), SLANT, ()), WHOLE),
            (1, ((("dull", (0, 1)),), ALONG, ()), WHOLE), (1, around, WHOLE), (1, around, (1, 1, 0, 0)),
            (3, ONE, WHOLE), (4, QUARTER, WHOLE), (3, ((), ALONG, (UPRIGHT,)), WHOLE), (4, SLANT_QUARTER, WHOLE),
        ):
            self.assertEqual(self.rank_of(told, how), many, (told, how))
            self.gives(many, rig_rank, told, how)
        draw, seen = Draw(6), set()
        for _ in range(60):
            told, how = rig(draw), look(draw)
            many = self.rank_of(told, how)
            seen.add(many)
            self.gives(many, rig_rank, told, how)
        # Q and U turn together, so no stacks and plates were found that make just two of the four tell.
        self.assertEqual(seen, {0, 1, 3, 4})

    def test_lights_of_courses(self):
        draw = Draw(7)
        full = 0
        for _ in range(60):
            told, how, light = rig(draw), look(draw), draw.light()
            course = course_of_rig(told, light, how)
            if self.rank_of(told, how) < 4:
                self.refuses(NotTold, None, None, lambda: light_of_course(told, how, course))
                continue
            full += 1
            self.gives(light, light_of_course, told, how, course)
        self.assertGreater(full, 9)
        for light in ((0, 0, 0, 0, 1), (1, 0, 0, 0, 1), (5, 3, 0, 4, 7), (BIG, 1, 2, 3, 7)):
            for told in (QUARTER, SLANT_QUARTER):
                self.gives(light, light_of_course, told, WHOLE, course_of_rig(told, light, WHOLE))

    def test_courses_of_no_light(self):
        # What is more swing than light, or less than no light, comes from four numbers that are no light.
        one, two = (1, 1, 0, 0, 1), (1, 0, 0, 1, 1)
        for light, other in ((one, (2, 0, 0, 0, 1)), (one, two), ((0, 0, 0, 0, 1), one), ((2, 2, 0, 0, 1), (1, 0, 0, 0, 1))):
            courses = [course_of_rig(QUARTER, told, WHOLE) for told in (light, other)]
            self.gives(None, light_of_course, QUARTER, WHOLE, course_less(courses[0], courses[1]))
        less = course_less(course_of_rig(QUARTER, (3, 1, 0, 0, 1), WHOLE), course_of_rig(QUARTER, (1, 0, 0, 1, 1), WHOLE))
        self.gives((2, 1, 0, -1, 1), light_of_course, QUARTER, WHOLE, less)
        # All courses of this rig lie in a space of four dimensions of the five.
        self.gives(None, light_of_course, QUARTER, WHOLE, course_of((0, 0, 0, 0, 1), 1))
        outside = 0
        for at in range(5):
            numbers = [1 if place == at else 0 for place in range(5)]
            outside += light_of_course(QUARTER, WHOLE, course_of(tuple(numbers), 1)) is None
        self.assertGreater(outside, 0)

    def test_not_told_is_last(self):
        self.refuses(NotTold, None, None, lambda: light_of_course(ONE, WHOLE, MALUS))
        self.refuses(InvalidCourse, "given", None, lambda: light_of_course(ONE, WHOLE, None))
        self.refuses(InvalidLook, "given", None, lambda: light_of_course(rig=ONE, look=None, course=None))

    def test_wrong_arguments(self):
        a_rig = Argument("rig", QUARTER, InvalidRig, WRONG_RIGS)
        a_look = Argument("look", WHOLE, InvalidLook, WRONG_LOOKS)
        self.checks_arguments(is_idle, a_rig)
        self.checks_arguments(stack_at, a_rig, Argument("setting", (1, 0), InvalidSetting, WRONG_SETTINGS))
        self.checks_arguments(course_of_rig, a_rig, Argument("light", LAMP, InvalidLight, WRONG_LIGHTS), a_look)
        for function in (same_rigs, parting_setting):
            self.checks_arguments(function, a_rig, Argument("other", ONE, InvalidRig, WRONG_RIGS))
        self.checks_arguments(rig_rank, a_rig, a_look)
        self.checks_arguments(light_of_course, a_rig, a_look, Argument("course", MALUS, InvalidCourse, WRONG_COURSES))


if __name__ == "__main__":
    unittest.main()
