"""Names of what stands on a bench."""

from platelights.errors import InvalidName

_MOST_LETTERS = 12


def is_name(value):
    """Whether a value is a name: 1 to 12 letters from a to z."""
    if type(value) is not str or len(value) < 1 or len(value) > _MOST_LETTERS:
        return False
    return all(["a" <= letter <= "z" for letter in value])


def check_name(value):
    """Raise an error for what is no name."""
    if not is_name(value):
        raise InvalidName(value)
