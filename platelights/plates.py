"""Plates and stacks of plates, and what they do to lights."""

from platelights.errors import InvalidPlate, InvalidStack
from platelights.fractions import is_share
from platelights.lights import check_light, is_kind
from platelights.settings import is_setting
from platelights.tables import led_light, led_numbers, reduced_table, table_product, unit
from platelights.turns import is_turn, turn_back, turn_table
from platelights.wholes import first_wrong, has_word

_MOST_PLATES = 8
TELLING_LIGHTS = ((1, 0, 0, 0, 1), (1, 1, 0, 0, 1), (1, 0, 1, 0, 1), (1, 0, 0, 1, 1))


def _is_bare_plate(value):
    """Whether a value is a plate that is not set."""
    if not has_word(value):
        return False
    word, parts = value[0], value[1:]
    if word == "glass":
        return len(parts) == 0
    if word == "partial":
        return len(parts) == 3 and is_kind(parts[0]) and is_share(parts[1]) and is_share(parts[2])
    if len(parts) != 1:
        return False
    if word == "polariser":
        return is_kind(parts[0])
    if word == "turner":
        return is_turn(parts[0])
    if word == "magnet":
        return is_setting(parts[0])
    return word in ("grey", "dull") and is_share(parts[0])


def is_plate(value):
    """Whether a value is a plate."""
    if has_word(value) and value[0] == "set":
        return len(value) == 3 and is_setting(value[1]) and _is_bare_plate(value[2])
    return _is_bare_plate(value)


def is_stack(value):
    """Whether a value is a stack."""
    return type(value) is tuple and first_wrong(value, is_plate, _MOST_PLATES) is None


def check_plate(value):
    """Raise an error for what is no plate."""
    if not is_plate(value):
        raise InvalidPlate(value)


def check_stack(value):
    """Raise an error for what is no stack."""
    if type(value) is not tuple:
        raise InvalidStack(None)
    index = first_wrong(value, is_plate, _MOST_PLATES)
    if index is not None:
        raise InvalidStack(index)


def _partial_row(kind, at, shares):
    """A row of the table of a partial polariser, but the first one; the shares are those of its numbers A, B, f g."""
    level, swing, both = shares
    size = kind[3] * kind[3]
    row = [(level - both) * kind[at] * number for number in kind[:3]]
    row[at] += both * size
    return (swing * kind[3] * kind[at], *row)


def _partial_table(kind, own, opposite):
    """The table of a plate that lets shares of a kind and of the opposite one through."""
    below = own[1] * opposite[1]
    f, g = own[0] * opposite[1], opposite[0] * own[1]
    # All numbers are told over twice the square of the common denominator and over the kind's N twice.
    shares = (f * f + g * g, f * f - g * g, 2 * f * g)
    swing = [shares[1] * kind[3] * number for number in kind[:3]]
    rows = [(shares[0] * kind[3] * kind[3], *swing)] + [_partial_row(kind, at, shares) for at in range(3)]
    return reduced_table(rows, 2 * below * below * kind[3] * kind[3])


def _diagonal_table(numbers, below):
    """The table that has four numbers on its diagonal and 0 elsewhere."""
    rows = [[number if at == place else 0 for place in range(4)] for at, number in enumerate(numbers)]
    return reduced_table(rows, below)


def _magnet_turn(setting):
    """The turn about V that does what a magnet does."""
    return (setting[1], 0, 0, setting[0])


def _bare_table(plate):
    """The table of a plate that is not set."""
    word = plate[0]
    if word == "polariser":
        return _partial_table(plate[1], (1, 1), (0, 1))
    if word == "partial":
        return _partial_table(plate[1], plate[2], plate[3])
    if word == "turner":
        return turn_table(plate[1])
    if word == "magnet":
        return turn_table(_magnet_turn(plate[1]))
    if word == "glass":
        return _diagonal_table((1, 1, 1, -1), 1)
    part, below = plate[1]
    return _diagonal_table((part if word == "grey" else below, part, part, part), below)


def table_of_plate(plate):
    """The table of a plate."""
    check_plate(plate)
    if plate[0] != "set":
        return _bare_table(plate)
    turn = _magnet_turn(plate[1])
    turned = table_product(turn_table(turn), _bare_table(plate[2]))
    return table_product(turned, turn_table(turn_back(turn)))


def table_of_stack(stack):
    """The table of a stack: that of the plate which the light meets last stands to the left."""
    check_stack(stack)
    whole = unit()
    for plate in stack:
        whole = table_product(table_of_plate(plate), whole)
    return whole


def through(stack, light):
    """The light behind a stack."""
    check_stack(stack)
    check_light(light)
    return led_light(table_of_stack(stack), light)


def parting_light(stack, other):
    """A light on which two stacks part; None if they do the same to all lights."""
    check_stack(stack)
    check_stack(other)
    table, other_table = table_of_stack(stack), table_of_stack(other)
    for light in TELLING_LIGHTS:
        if led_numbers(table, light) != led_numbers(other_table, light):
            return light
    return None


def are_alike(stack, other):
    """Whether two stacks do the same to all lights."""
    return parting_light(stack, other) is None
