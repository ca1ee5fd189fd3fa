"""The parts of wishes and claims: of which sort each of them is, the sorts being told by words."""

from platelights.amplitudes import is_matrix
from platelights.courses import is_course
from platelights.fractions import is_fraction, is_share
from platelights.leads import are_pairs
from platelights.lights import are_lights, is_light, is_look
from platelights.names import is_name
from platelights.patchworks import are_tables
from platelights.plates import is_stack
from platelights.readings import are_readings
from platelights.tables import is_table
from platelights.turns import is_turn
from platelights.wholes import is_whole


def _is_plain_part(value, sort):
    """Whether a value is of a sort that is told by no more than a row of whole numbers or a string."""
    if sort == "name":
        return is_name(value)
    if sort == "whole":
        return is_whole(value)
    if sort == "fraction":
        return is_fraction(value)
    if sort == "share":
        return is_share(value)
    if sort == "light":
        return is_light(value)
    if sort == "look":
        return is_look(value)
    if sort == "turn":
        return is_turn(value)
    return sort == "course" and is_course(value)


def _is_part(value, sort):
    """Whether a value is of a sort."""
    if sort == "stack":
        return is_stack(value)
    if sort == "table":
        return is_table(value)
    if sort == "matrix":
        return is_matrix(value)
    if sort == "readings":
        return are_readings(value)
    if sort == "lights":
        return are_lights(value) and len(value) > 0
    if sort == "tables":
        return are_tables(value)
    if sort == "pairs":
        return are_pairs(value)
    return _is_plain_part(value, sort)


def are_parts(values, sorts):
    """Whether values are of sorts, one by one."""
    return len(values) == len(sorts) and all([_is_part(value, sort) for value, sort in zip(values, sorts)])
