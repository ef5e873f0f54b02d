"""Policies and devices: what is one, and how many lines it has (points 6 and 8)."""

from missbounds.errors import InvalidDevice, InvalidPolicy
from missbounds.kinds import is_between, is_tuple
from missbounds.limits import MOST_LINES, MOST_STATES

# How many policies stand behind the mode.
LEVELS = {"cache": 1, "plain": 2, "inclusive": 2, "victim": 2}


def is_policy(value):
    """Return whether any value is a policy (point 6)."""
    if not is_tuple(value, 2, 2):
        return False
    lines, rows = value
    if not is_between(lines, 1, MOST_LINES) or not is_tuple(rows, 1, MOST_STATES):
        return False
    return all([is_row(row, lines, len(rows)) for row in rows])


def is_row(value, lines, states):
    """Return whether any value is a row of a policy with so many lines and states."""
    if not is_tuple(value, 3, 3):
        return False
    victim, after, hits = value
    if not is_between(victim, 0, lines - 1) or not is_tuple(hits, lines, lines):
        return False
    return all([is_between(state, 0, states - 1) for state in (after, *hits)])


def is_device(value):
    """Return whether any value is a device (point 8)."""
    if not is_tuple(value, 2, 3):
        return False
    mode, *policies = value
    # Only a string is looked up: other values may have no hash.
    if not isinstance(mode, str) or LEVELS.get(mode) != len(policies):
        return False
    return all([is_policy(policy) for policy in policies])


def check_policy(value):
    """Raise InvalidPolicy if any value is not a policy."""
    if not is_policy(value):
        raise InvalidPolicy(value)


def check_device(value):
    """Raise InvalidDevice if any value is not a device."""
    if not is_device(value):
        raise InvalidDevice(value)


def count_lines(device):
    """Return the number of lines of a device, of both levels together."""
    check_device(device)
    return sum([lines for lines, rows in device[1:]])
