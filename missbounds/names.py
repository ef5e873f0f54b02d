"""Names and histories (point 5)."""

from missbounds.errors import InvalidHistory, InvalidName
from missbounds.kinds import is_tuple
from missbounds.limits import MOST_REQUESTS

LETTERS = "abcdefghijklmnopqrstuvwxyz"
LONGEST = 6


def is_name(value):
    """Return whether any value is a name."""
    if not isinstance(value, str) or not 1 <= len(value) <= LONGEST:
        return False
    return all([letter in LETTERS for letter in value])


def check_name(value):
    """Raise InvalidName if any value is not a name."""
    if not is_name(value):
        raise InvalidName(value)


def check_history(value):
    """Raise InvalidHistory if any value is not a history that may be passed."""
    if not is_tuple(value, 0, MOST_REQUESTS):
        raise InvalidHistory(None)
    for index, name in enumerate(value):
        if not is_name(name):
            raise InvalidHistory(index)
