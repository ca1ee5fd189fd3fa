"""Plates and stacks met the other way round, and what comes back through them."""

from platelights.plates import check_plate, check_stack, table_of_stack
from platelights.tables import reduced_table, table_product
from platelights.turns import check_turn, turn_along
from platelights.wholes import columns_of

_SIGNS = (1, 1, 1, -1)


def _bare_back(plate):
    """The back of a plate that is not set."""
    word = plate[0]
    if word in ("polariser", "partial"):
        q, u, v, below = plate[1]
        return (word, (q, u, -v, below), *plate[2:])
    if word == "turner":
        a, b, c, d = plate[1]
        return (word, turn_along((a, b, c, -d)))
    return plate


def plate_back(plate):
    """What a plate is for light that comes the other way."""
    check_plate(plate)
    if plate[0] == "set":
        return ("set", plate[1], _bare_back(plate[2]))
    return _bare_back(plate)


def stack_back(stack):
    """What a stack is for light that comes the other way."""
    check_stack(stack)
    return tuple([plate_back(plate) for plate in reversed(stack)])


def _table_back(table):
    """The table turned over, with the other sign for what V and the other numbers make of one another."""
    rows, below = table
    turned = columns_of(rows)
    signed = [[_SIGNS[at] * _SIGNS[place] * row[place] for place in range(4)] for at, row in enumerate(turned)]
    return reduced_table(signed, below)


def is_reciprocal(stack):
    """Whether the table of a stack's back is what its own table tells it to be without magnets."""
    check_stack(stack)
    return table_of_stack(stack_back(stack)) == _table_back(table_of_stack(stack))


def _leads_light(table):
    """Whether a stack with a table lets any light through."""
    return table[0][0][0] != 0


def ways(stack):
    """Whether a stack leads light forth, back, both or none."""
    forth = _leads_light(table_of_stack(stack))
    back = _leads_light(table_of_stack(stack_back(stack)))
    if forth and back:
        return "both"
    if forth:
        return "forth"
    return "back" if back else "none"


def round_table(stack):
    """The table of a stack there, at a mirror that changes nothing, and back."""
    check_stack(stack)
    return table_product(table_of_stack(stack_back(stack)), table_of_stack(stack))


def returns(stack):
    """Whether a stack returns any light."""
    return _leads_light(round_table(stack))


def round_turn(turn):
    """The turn of turners there and back."""
    check_turn(turn)
    a, b, c, d = turn
    return turn_along((a * a - b * b - c * c + d * d, 2 * (a * b + c * d), 2 * (a * c - b * d), 0))
