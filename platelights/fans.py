"""Polarisers in a row, and fans: a plate again and again, each turned further than the one before."""

from platelights.courses import setting_back
from platelights.errors import InvalidKinds, InvalidNumber
from platelights.lights import is_kind
from platelights.plates import check_plate, table_of_plate
from platelights.ratios import ratio
from platelights.settings import check_setting
from platelights.tables import table_product, unit
from platelights.wholes import dot, first_wrong, is_whole

_MOST_KINDS = 8
_MOST_PLATES = 24


def _check_kinds(value):
    """Raise an error for what is no tuple of at most eight kinds."""
    if type(value) is not tuple:
        raise InvalidKinds(None)
    index = first_wrong(value, is_kind, _MOST_KINDS)
    if index is not None:
        raise InvalidKinds(index)


def row_share(kinds):
    """The level of light with the level 1 that does not swing, behind polarisers of some kinds in a row."""
    _check_kinds(kinds)
    share, below = 1, 1 if len(kinds) == 0 else 2
    for kind, following in zip(kinds, kinds[1:]):
        size = kind[3] * following[3]
        share *= size + dot(kind[:3], following[:3])
        below *= 2 * size
    return ratio(share, below)


def _table_power(table, many):
    """The product of a table with itself, so often in all."""
    whole = unit()
    for _ in range(many):
        whole = table_product(whole, table)
    return whole


def fan_table(plate, setting, many):
    """The table of a fan: a plate and the same turned by a setting once, twice and so on, so many plates in all."""
    check_plate(plate)
    check_setting(setting)
    if not is_whole(many) or many < 1 or many > _MOST_PLATES:
        raise InvalidNumber(many)
    # Each plate is met turned back by what it is turned, so all turns but the last one make one step each.
    step = table_product(table_of_plate(("magnet", setting_back(setting))), table_of_plate(plate))
    return table_product(_table_power(table_of_plate(("magnet", setting)), many), _table_power(step, many))
