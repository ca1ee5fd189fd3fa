"""Turns of the sphere of kinds, told by quaternions of whole numbers."""

from platelights.errors import InvalidNumbers, InvalidTurn
from platelights.fractions import check_whole_to
from platelights.lights import check_kind, check_light, opposite_kind
from platelights.ratios import is_square, ratio, square_root
from platelights.settings import check_setting
from platelights.tables import check_table, reduced_table
from platelights.wholes import dot, is_reduced_row, is_row, reduced

_STILL = (1, 0, 0, 0)
_MOST_TIMES = 24


def _first_sign(row):
    """The first number of a row that is not 0; 0 if there is none."""
    for number in row:
        if number != 0:
            return number
    return 0


def is_turn(value):
    """Whether a value is a turn."""
    return is_reduced_row(value, 4) and _first_sign(value) > 0


def check_turn(value):
    """Raise an error for what is no turn."""
    if not is_turn(value):
        raise InvalidTurn(value)


def _along(row):
    """The turn along four whole numbers that are not all 0."""
    side = -1 if _first_sign(row) < 0 else 1
    return tuple([side * number for number in reduced(row)])


def turn_along(numbers):
    """The turn along a tuple of four whole numbers, not all 0."""
    if not is_row(numbers, 4) or _first_sign(numbers) == 0:
        raise InvalidNumbers(numbers)
    return _along(numbers)


def turn_about(kind, setting):
    """The turn about a kind by the angle of which the half is the setting's."""
    check_kind(kind)
    check_setting(setting)
    a, b = setting
    return _along((b * kind[3], a * kind[0], a * kind[1], a * kind[2]))


def _quaternion_product(one, two):
    """The product of two quaternions."""
    a, b, c, d = one
    e, f, g, h = two
    return (
        a * e - b * f - c * g - d * h,
        a * f + b * e + c * h - d * g,
        a * g - b * h + c * e + d * f,
        a * h + b * g - c * f + d * e,
    )


def joined_turns(turn, other):
    """The turn of which the light meets one turn first and the other one then."""
    check_turn(turn)
    check_turn(other)
    return _along(_quaternion_product(other, turn))


def turn_back(turn):
    """The turn that takes a turn back."""
    check_turn(turn)
    a, b, c, d = turn
    return _along((a, -b, -c, -d))


def turn_times(turn, many):
    """A turn joined to itself, so often in all."""
    check_turn(turn)
    check_whole_to(many, _MOST_TIMES)
    whole = _STILL
    for _ in range(many):
        whole = joined_turns(whole, turn)
    return whole


def _turn_rows(turn):
    """The three rows by which a turn leads (Q, U, V), over the length of its quaternion."""
    a, b, c, d = turn
    return (
        (a * a + b * b - c * c - d * d, 2 * (b * c - a * d), 2 * (b * d + a * c)),
        (2 * (b * c + a * d), a * a - b * b + c * c - d * d, 2 * (c * d - a * b)),
        (2 * (b * d - a * c), 2 * (c * d + a * b), a * a - b * b - c * c + d * d),
    )


def turn_table(turn):
    """The table of the turner with a turn."""
    rows = _turn_rows(turn)
    below = dot(turn, turn)
    return reduced_table(((below, 0, 0, 0), (0, *rows[0]), (0, *rows[1]), (0, *rows[2])), below)


def turned_light(light, turn):
    """The light to which a turn leads a light."""
    check_light(light)
    check_turn(turn)
    below = dot(turn, turn)
    led = [dot(row, light[1:4]) for row in _turn_rows(turn)]
    return reduced((below * light[0], *led, below * light[4]))


def turned_kind(kind, turn):
    """The kind to which a turn leads a kind."""
    check_kind(kind)
    check_turn(turn)
    led = [dot(row, kind[:3]) for row in _turn_rows(turn)]
    return reduced((*led, dot(turn, turn) * kind[3]))


def turn_cosine(turn):
    """The cosine of the angle of a turn."""
    check_turn(turn)
    square, size = turn[0] * turn[0], dot(turn[1:], turn[1:])
    return ratio(square - size, square + size)


def turn_order(turn):
    """The least number of times after which a turn joined to itself turns nothing; None if there is none."""
    check_turn(turn)
    square, size = turn[0] * turn[0], dot(turn[1:], turn[1:])
    if size == 0:
        return 1
    if square == 0:
        return 2
    if 3 * square == size:
        return 3
    if square == size:
        return 4
    return 6 if square == 3 * size else None


def kept_kinds(turn):
    """The kinds that a turn leaves as they are: all, a pair or none."""
    check_turn(turn)
    if turn == _STILL:
        return "all"
    size = dot(turn[1:], turn[1:])
    if not is_square(size):
        return ()
    kind = reduced((*turn[1:], square_root((size, 1))[0]))
    return (kind, opposite_kind(kind))


def _quaternion_squares(rows, below):
    """Four times the products of a quaternion's numbers with one another, if these are the rows of its turn."""
    (_, _, _, _), (_, xx, xy, xz), (_, yx, yy, yz), (_, zx, zy, zz) = rows
    return (
        (below + xx + yy + zz, zy - yz, xz - zx, yx - xy),
        (zy - yz, below + xx - yy - zz, xy + yx, xz + zx),
        (xz - zx, xy + yx, below - xx + yy - zz, yz + zy),
        (yx - xy, xz + zx, yz + zy, below - xx - yy + zz),
    )


def turn_of_table(table):
    """The turn of the turner that has a table; None if none has it."""
    check_table(table)
    squares = _quaternion_squares(table[0], table[1])
    # The four numbers on the diagonal add up to four times what the rows are over, so some row is not 0.
    rows = [row for at, row in enumerate(squares) if row[at] != 0]
    turn = _along(rows[0])
    return turn if turn_table(turn) == table else None


def two_halves(turn):
    """Two half turns that joined, in this order, make a turn."""
    check_turn(turn)
    _, b, c, _ = turn
    first = _along((0, c, -b, 0)) if b != 0 or c != 0 else (0, 1, 0, 0)
    return (first, _along(_quaternion_product(turn, first)))


def linear_and_round(turn):
    """The linear turn and the round one that joined, in this order, make a turn."""
    check_turn(turn)
    a, b, c, d = turn
    if a == 0 and d == 0:
        return (turn, _STILL)
    return (_along((a * a + d * d, a * b + c * d, a * c - b * d, 0)), _along((a, 0, 0, d)))
