"""Wishes of a bench, and whether they hold for what stands there.

What stands on a bench is a dict of names, each with a pair of its sort and the thing.
"""

from platelights.angles import compare_greatest
from platelights.backs import ways
from platelights.lights import read_level
from platelights.parts import are_parts
from platelights.plates import are_alike, through
from platelights.ratios import ratio_sign
from platelights.rigs import course_of_rig
from platelights.rounds import all_fade
from platelights.wholes import has_word

_PARTS = {
    "out": ("name", "light"), "same": ("name", "name"), "alike": ("name", "name"),
    "at most": ("name", "look", "fraction"), "at least": ("name", "look", "fraction"),
    "turned": ("name", "whole", "look", "fraction"), "one way": ("name",), "fading": ("name",),
}
_MOST_INDEX = 7


def is_wish(value):
    """Whether a value is a wish."""
    if not has_word(value) or value[0] not in _PARTS or not are_parts(value[1:], _PARTS[value[0]]):
        return False
    return value[0] != "turned" or 0 <= value[2] <= _MOST_INDEX


def names_in(wish):
    """The names of beams in a wish."""
    return wish[1:3] if wish[0] in ("same", "alike") else wish[1:2]


def stack_there(things, name):
    """The stack of a beam."""
    return tuple([things[plate][1] for plate in things[name][1][1]])


def light_there(things, name):
    """The light that a beam begins with."""
    return things[things[name][1][0]][1]


def light_out(things, name):
    """The light behind all plates of a beam."""
    return through(stack_there(things, name), light_there(things, name))


def _turned_holds(wish, things):
    """Whether what a look reads is at most a fraction, however far a plate is turned."""
    _, name, index, look, most = wish
    stack = stack_there(things, name)
    if index >= len(stack):
        return False
    rig = (stack[:index], stack[index], stack[index + 1:])
    return compare_greatest(course_of_rig(rig, light_there(things, name), look), most) <= 0


def _pair_holds(wish, things):
    """Whether two beams have what a wish of two names asks for."""
    word, one, two = wish
    if word == "same":
        return light_out(things, one) == light_out(things, two)
    return are_alike(stack_there(things, one), stack_there(things, two))


def _level_holds(wish, things):
    """Whether what a look reads of a beam's light out is at most, or at least, a fraction."""
    word, name, look, level = wish
    side = ratio_sign(read_level(look, light_out(things, name)), level)
    return side <= 0 if word == "at most" else side >= 0


def holds(wish, things):
    """Whether a wish holds for what stands on a bench."""
    word, name = wish[:2]
    if word == "out":
        return light_out(things, name) == wish[2]
    if word == "one way":
        return ways(stack_there(things, name)) == "forth"
    if word == "fading":
        return all_fade(stack_there(things, name))
    if word == "turned":
        return _turned_holds(wish, things)
    return _pair_holds(wish, things) if word in ("same", "alike") else _level_holds(wish, things)
