"""Turns that lead lights to told lights, and what shows that no turn does."""

from itertools import combinations

from platelights.equations import rank_of
from platelights.errors import InvalidPairs, NoTurnFits
from platelights.lights import check_light, crossed, is_light
from platelights.tables import reduced_table
from platelights.turns import check_turn, turn_along, turn_of_table, turned_light
from platelights.wholes import columns_of, dot, first_wrong

_STILL = (1, 0, 0, 0)
_MOST_PAIRS = 6


def is_pair(value):
    """Whether a value is a pair of two lights."""
    return type(value) is tuple and len(value) == 2 and is_light(value[0]) and is_light(value[1])


def are_pairs(value):
    """Whether a value is a tuple of at most six pairs."""
    return type(value) is tuple and first_wrong(value, is_pair, _MOST_PAIRS) is None


def check_pairs(value):
    """Raise an error for what is no tuple of at most six pairs."""
    if type(value) is not tuple:
        raise InvalidPairs(None)
    index = first_wrong(value, is_pair, _MOST_PAIRS)
    if index is not None:
        raise InvalidPairs(index)


def _swings(pair):
    """The numbers Q, U, V of both lights of a pair, over one number."""
    before, after = pair
    return ([after[4] * number for number in before[1:4]], [before[4] * number for number in after[1:4]])


def _upright(one, two):
    """The cross product of two triples."""
    return (one[1] * two[2] - one[2] * two[1], one[2] * two[0] - one[0] * two[2], one[0] * two[1] - one[1] * two[0])


def has_one_level(pair):
    """Whether both lights of a pair have the same level."""
    before, after = pair
    return before[0] * after[4] == after[0] * before[4]


def leading(light, other):
    """The turn with the least angle that leads a light to another one; None if no turn does."""
    check_light(light)
    check_light(other)
    swing, led = _swings((light, other))
    if not has_one_level((light, other)) or dot(swing, swing) != dot(led, led):
        return None
    whole = dot(swing, swing) + dot(swing, led)
    if whole != 0:
        return turn_along((whole, *_upright(swing, led)))
    # The swings are opposite: both 0, or led to one another by half turns about what is upright on them.
    q, u, v = swing
    if q == 0 and u == 0:
        return _STILL if v == 0 else (0, 1, 0, 0)
    return turn_along((0, u, -q, 0))


def is_fitting(pairs, turn):
    """Whether a turn leads the first light of each pair to its second one."""
    check_pairs(pairs)
    check_turn(turn)
    return all([turned_light(before, turn) == after for before, after in pairs])


def have_one_product(pair, other):
    """Whether the first lights of two pairs have the same product as the second ones."""
    (before, after), (first, second) = pair, other
    one, two = crossed(before[:4], first[:4]), crossed(after[:4], second[:4])
    return one * after[4] * second[4] == two * before[4] * first[4]


def _bar_of_products(pairs):
    """Two indexes of pairs whose lights have unlike products, if there are such."""
    for at, pair in enumerate(pairs):
        for place in range(at, len(pairs)):
            if not have_one_product(pair, pairs[place]):
                return ("product", at, place)
    return None


def _hand(triple):
    """The determinant of three triples."""
    one, two, three = triple
    return dot(one, _upright(two, three))


def have_one_hand(pairs):
    """Whether the first lights of three pairs have the same determinant as the second ones."""
    swings = [_swings(pair) for pair in pairs]
    return _hand([before for before, _ in swings]) == _hand([after for _, after in swings])


def _bar_of_hands(pairs):
    """Three indexes of pairs whose lights have unlike determinants, if there are such."""
    for chosen in combinations(range(len(pairs)), 3):
        if not have_one_hand([pairs[at] for at in chosen]):
            return ("hand", *chosen)
    return None


def bar_to_turn(pairs):
    """What shows that no turn fits some pairs; None if some turn fits."""
    check_pairs(pairs)
    for at, pair in enumerate(pairs):
        if not has_one_level(pair):
            return ("level", at)
    bar = _bar_of_products(pairs)
    return bar if bar is not None else _bar_of_hands(pairs)


def _turn_by_two(swings, others):
    """The turn that leads two triples that are not along one line to two others with the same products."""
    one, two = swings
    led, other_led = others
    three, whole = _upright(one, two), _upright(led, other_led)
    below = dot(three, three)
    # The rows that tell how much of one, two and three there is in a triple, times what they are over.
    shares = columns_of((_upright(two, three), _upright(three, one), three))
    columns = columns_of((led, other_led, whole))
    rows = [(0, *[dot(column, share) for share in shares]) for column in columns]
    return turn_of_table(reduced_table(((below, 0, 0, 0), *rows), below))


def fitting_turn(pairs):
    """A turn that fits some pairs; None if none does."""
    if bar_to_turn(pairs) is not None:
        return None
    for one, two in combinations([_swings(pair) for pair in pairs], 2):
        if rank_of([one[0], two[0]]) == 2:
            return _turn_by_two((one[0], two[0]), (one[1], two[1]))
    for before, after in pairs:
        if before[1:4] != (0, 0, 0):
            return leading(before, after)
    return _STILL


def turns_that_fit(pairs):
    """How many turns fit some pairs: none, one or endless."""
    if bar_to_turn(pairs) is not None:
        return "none"
    return "one" if rank_of([before[1:4] for before, _ in pairs]) > 1 else "endless"


def sure_image(pairs, light):
    """The light to which all turns that fit some pairs lead a light; None if it is not sure."""
    check_pairs(pairs)
    check_light(light)
    turn = fitting_turn(pairs)
    if turn is None:
        raise NoTurnFits()
    swings = [before[1:4] for before, _ in pairs]
    is_sure = rank_of(swings) > 1 or rank_of([*swings, light[1:4]]) == rank_of(swings)
    return turned_light(light, turn) if is_sure else None
