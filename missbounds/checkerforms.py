"""The forms of claims and of parts of evidence, for the checker alone (points 4 to 9 and 16)."""

from missbounds.limits import (
    MOST_KEPT, MOST_LINES, MOST_NAMES, MOST_PLACES, MOST_REQUESTS, MOST_STATES,
)

ALPHABET = "abcdefghijklmnopqrstuvwxyz"
LONGEST_NAME = 6
NAMES_OF_A_PROGRAM = 8


def fits_claim(told, form):
    """Return whether what is told behind the word of a claim has the kinds of a form, one for each value."""
    if len(told) != len(form):
        return False
    for value, kind in zip(told, form):
        fits = FITS[kind]
        if not fits(value):
            return False
    return True


def fits_tuple(value, many):
    """Return whether any value is a tuple of so many elements."""
    return isinstance(value, tuple) and len(value) == many


def fits_range(value, many):
    """Return whether any value is an integer from 0 on that is less than a number."""
    return isinstance(value, int) and not isinstance(value, bool) and 0 <= value < many


def fits_number(value):
    """Return whether any value is an integer from 0 on."""
    return isinstance(value, int) and not isinstance(value, bool) and value >= 0


def fits_truth(value):
    """Return whether any value is True or False."""
    return isinstance(value, bool)


def fits_truths(value):
    """Return whether any value is a tuple of True and False."""
    return isinstance(value, tuple) and all([fits_truth(part) for part in value])


def fits_numbers(value, many):
    """Return whether any value is a tuple of so many integers from 0 on."""
    return fits_tuple(value, many) and all([fits_number(part) for part in value])


def fits_fraction(value):
    """Return whether any value is a fraction from 0 on."""
    if not fits_numbers(value, 2) or value[1] == 0:
        return False
    rest, common = value
    while rest != 0:
        rest, common = common % rest, rest
    return common == 1


def fits_allowed(value):
    """Return whether any value is None or a number of names that steps may have."""
    return value is None or fits_number(value) and 1 <= value <= MOST_NAMES


def fits_lines(value):
    """Return whether any value is a number of lines."""
    return fits_number(value) and 1 <= value <= MOST_LINES


def fits_name(value):
    """Return whether any value is a name."""
    if not isinstance(value, str) or len(value) > LONGEST_NAME:
        return False
    return value != "" and all([letter in ALPHABET for letter in value])


def fits_names(value):
    """Return whether any value is a history that may be passed."""
    if not isinstance(value, tuple) or len(value) > MOST_REQUESTS:
        return False
    return all([fits_name(name) for name in value])


def fits_kept_names(value):
    """Return whether any value is a history of which the least misses can be told."""
    return fits_names(value) and len(value) <= MOST_KEPT


def fits_policy(value):
    """Return whether any value is a policy."""
    if not fits_tuple(value, 2) or not fits_lines(value[0]) or not isinstance(value[1], tuple):
        return False
    lines, rows = value
    if not 1 <= len(rows) <= MOST_STATES or not all([fits_tuple(row, 3) for row in rows]):
        return False
    limits = (len(rows),) * lines
    for victim, after, hits in rows:
        if not fits_range(victim, lines) or not fits_range(after, len(rows)) or not fits_states(hits, limits):
            return False
    return True


def fits_states(value, limits):
    """Return whether any value is a tuple with a state for each of some numbers of states."""
    if not fits_tuple(value, len(limits)):
        return False
    return all([fits_range(state, limit) for state, limit in zip(value, limits)])


def fits_device(value):
    """Return whether any value is a device."""
    if not isinstance(value, tuple) or len(value) == 0 or not isinstance(value[0], str):
        return False
    mode, *policies = value
    levels = 1 if mode == "cache" else 2
    if mode not in ("cache", "plain", "inclusive", "victim") or len(policies) != levels:
        return False
    return all([fits_policy(policy) for policy in policies])


def fits_program(value):
    """Return whether any value is a program."""
    if not isinstance(value, tuple) or not 1 <= len(value) <= MOST_PLACES:
        return False
    for place in value:
        if not fits_tuple(place, 2) or not fits_name(place[0]) or not fits_targets(place[1], len(value)):
            return False
    return len({name for name, targets in value}) <= NAMES_OF_A_PROGRAM


def fits_targets(value, many):
    """Return whether any value is an ascending tuple of indexes of so many places."""
    if not isinstance(value, tuple) or not all([fits_range(target, many) for target in value]):
        return False
    return all([value[index] < value[index + 1] for index in range(len(value) - 1)])


def fits_situation(one, other, value):
    """Return whether any value is a situation of two devices."""
    if not fits_tuple(value, 2) or not fits_states(value[0], limits_of(one) + limits_of(other)):
        return False
    contents = value[1]
    lines = lines_of(one)
    if not fits_tuple(contents, lines + lines_of(other)):
        return False
    known = 0
    for number in contents:
        # A number is new only if all lesser ones have occurred.
        if number is not None and not fits_range(number, known + 1):
            return False
        if number == known:
            known += 1
    return holds_each_once(one, contents[:lines]) and holds_each_once(other, contents[lines:])


def fits_moment(device, program, value):
    """Return whether any value is a moment of a device in a program."""
    if not fits_tuple(value, 3) or not fits_range(value[0], len(program)):
        return False
    states, contents = value[1:]
    if not fits_states(states, limits_of(device)) or not fits_tuple(contents, lines_of(device)):
        return False
    return all([name is None or fits_name(name) for name in contents]) and holds_each_once(device, contents)


def limits_of(device):
    """Return the numbers of states of the levels of a device."""
    return tuple([len(policy[1]) for policy in device[1:]])


def lines_of(device):
    """Return the number of lines of a device."""
    return sum([policy[0] for policy in device[1:]])


def holds_each_once(device, contents):
    """Return whether no name is twice in a level, nor in both levels of a device of the mode victim."""
    cut = lines_of(device) if device[0] == "victim" else device[1][0]
    for part in (contents[:cut], contents[cut:]):
        held = [name for name in part if name is not None]
        if len(set(held)) < len(held):
            return False
    return True


def members_of(value, fits):
    """Return a dict with the elements of any value, or None if one does not fit or is twice, or it is no tuple."""
    if not isinstance(value, tuple):
        return None
    return worths_of(tuple([(part, True) for part in value]), fits, fits_truth)


def worths_of(value, fits, fits_worth):
    """Return a dict of the pairs in any value, or None if one does not fit or has the first part of another one."""
    if not isinstance(value, tuple):
        return None
    found = {}
    for pair in value:
        # What fits can be hashed, so this is asked first.
        if not fits_tuple(pair, 2) or not fits(pair[0]) or not fits_worth(pair[1]) or pair[0] in found:
            return None
        found[pair[0]] = pair[1]
    return found


FITS = {
    "device": fits_device, "allowed": fits_allowed, "fraction": fits_fraction, "policy": fits_policy,
    "number": fits_number, "program": fits_program, "truth": fits_truth, "truths": fits_truths, "names": fits_names,
    "kept names": fits_kept_names, "lines": fits_lines,
}
