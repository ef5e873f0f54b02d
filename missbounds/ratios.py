"""Fractions from 0 on (point 4)."""

from missbounds.kinds import is_tuple, is_whole


def is_fraction(value):
    """Return whether any value is a fraction from 0 on."""
    if not is_tuple(value, 2, 2) or not all([is_whole(part) for part in value]):
        return False
    top, bottom = value
    return top >= 0 and bottom >= 1 and divisor(top, bottom) == 1


def in_lowest_terms(top, bottom):
    """Return the fraction of an integer from 0 on and one from 1 on."""
    common = divisor(top, bottom)
    return top // common, bottom // common


def divisor(one, other):
    """Return the greatest integer that divides both of two integers from 0 on."""
    while other != 0:
        one, other = other, one % other
    return one
