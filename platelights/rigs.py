"""Rigs: a plate on a handle between two stacks, and the courses of light behind them."""

from platelights.courses import check_course, course_through, setting_sum
from platelights.equations import rank_of, solution_of
from platelights.errors import InvalidRig, NotTold
from platelights.lights import check_light, check_look, is_light, read_level
from platelights.plates import TELLING_LIGHTS, is_plate, is_stack, table_of_stack
from platelights.settings import check_setting
from platelights.tables import led_light
from platelights.wholes import columns_of, reduced

_MOST_PLATES_BESIDE = 7
# What a rig does at these five settings tells what it does at all.
_SETTINGS = ((0, 1), (1, 1), (-1, 1), (1, 0), (1, 2))


def is_rig(value):
    """Whether a value is a rig."""
    if type(value) is not tuple or len(value) != 3:
        return False
    first, plate, last = value
    if not (is_stack(first) and is_plate(plate) and is_stack(last)):
        return False
    return len(first) + len(last) <= _MOST_PLATES_BESIDE


def check_rig(value):
    """Raise an error for what is no rig."""
    if not is_rig(value):
        raise InvalidRig(value)


def _turned_plate(plate, setting):
    """A plate turned by a setting; what is set already is set further."""
    if plate[0] == "set":
        return ("set", setting_sum(plate[1], setting), plate[2])
    return ("set", setting, plate)


def stack_at(rig, setting):
    """The stack that a rig is at a setting."""
    check_rig(rig)
    check_setting(setting)
    first, plate, last = rig
    return (*first, _turned_plate(plate, setting), *last)


def _tables_of(rig):
    """The tables of a rig at five settings."""
    return [table_of_stack(stack_at(rig, setting)) for setting in _SETTINGS]


def _course_of_tables(tables, light, look):
    """The course of what a look reads of a light behind tables at five settings."""
    levels = [read_level(look, led_light(table, light)) for table in tables]
    return course_through(tuple([(setting, level) for setting, level in zip(_SETTINGS, levels)]))


def course_of_rig(rig, light, look):
    """The course of what a look reads of a light behind a rig."""
    check_rig(rig)
    check_light(light)
    check_look(look)
    return _course_of_tables(_tables_of(rig), light, look)


def is_idle(rig):
    """Whether a rig does the same to all lights at each setting."""
    check_rig(rig)
    tables = _tables_of(rig)
    return all([table == tables[0] for table in tables])


def parting_setting(rig, other):
    """A setting at which two rigs do not do the same to all lights; None if there is none."""
    check_rig(rig)
    check_rig(other)
    for setting, table, beside in zip(_SETTINGS, _tables_of(rig), _tables_of(other)):
        if table != beside:
            return setting
    return None


def same_rigs(rig, other):
    """Whether two rigs do the same to all lights at all settings."""
    return parting_setting(rig, other) is None


def _telling_courses(rig, look):
    """The courses of the four lights that tell all others."""
    tables = _tables_of(rig)
    return [_course_of_tables(tables, light, look) for light in TELLING_LIGHTS]


def rig_rank(rig, look):
    """The dimension of all courses that come from any four numbers behind a rig."""
    check_rig(rig)
    check_look(look)
    return rank_of([course[:5] for course in _telling_courses(rig, look)])


def light_of_course(rig, look, course):
    """The light of which a course comes behind a rig; None if there is none."""
    check_rig(rig)
    check_look(look)
    check_course(course)
    courses = _telling_courses(rig, look)
    if rank_of([told[:5] for told in courses]) < 4:
        raise NotTold()
    rows = [[told[at] for told in courses] for at in range(5)]
    solution = solution_of(rows, course[:5])
    if solution is None:
        return None
    numbers, below = solution
    # The numbers tell how often each light is to be taken, but for what the courses are over.
    parts = [number * told[5] for number, told in zip(numbers, courses)]
    columns = columns_of([light[:4] for light in TELLING_LIGHTS])
    light = reduced((*[sum([part * number for part, number in zip(parts, row)]) for row in columns], below * course[5]))
    return light if is_light(light) else None
