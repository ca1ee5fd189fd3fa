"""Settings: angles that are told by the ratio of their tangent."""

from platelights.errors import InvalidSetting
from platelights.wholes import is_reduced_row


def is_setting(value):
    """Whether a value is a setting."""
    return is_reduced_row(value, 2) and (value[1] > 0 or value == (1, 0))


def check_setting(value):
    """Raise an error for what is no setting."""
    if not is_setting(value):
        raise InvalidSetting(value)
