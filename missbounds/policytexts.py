"""Texts of devices and programs (points 6, 8 and 16)."""

from missbounds.errors import InvalidText
from missbounds.limits import MOST_LINES, MOST_PLACES, MOST_STATES
from missbounds.names import is_name
from missbounds.policies import LEVELS, check_device, is_policy
from missbounds.programs import MOST_PROGRAM_NAMES, check_program, is_program


def write_device(device):
    """Return the text of a device."""
    check_device(device)
    mode, *policies = device
    return "\n".join([mode, *[write_policy(policy) for policy in policies]])


def write_program(program):
    """Return the text of a program."""
    check_program(program)
    return "\n".join([joined((name, *targets)) for name, targets in program])


def write_policy(policy):
    """Return the text of a policy."""
    lines, rows = policy
    parts = [("lines", lines), *[(victim, behind, *hits) for victim, behind, hits in rows]]
    return "\n".join([joined(part) for part in parts])


def joined(parts):
    """Return a line of some parts."""
    return " ".join([str(part) for part in parts])


def read_device(text):
    """Return the device with a text."""
    texts = texts_in(text)
    mode = texts[0]
    if mode not in LEVELS:
        raise InvalidText(0)
    policies = []
    at = 1
    for level in range(LEVELS[mode]):
        policy, at = read_policy(texts, at)
        policies.append(policy)
    if at < len(texts):
        raise InvalidText(at)
    return (mode, *policies)


def read_policy(texts, first):
    """Return the policy whose text begins with a line, and the index of the line behind it.

    The index is also that of the error if the policy is not complete there: be it that the text ends, that the
    line is none of a policy, or that it comes too early or too late.
    """
    headings = [f"lines {many}" for many in range(1, MOST_LINES + 1)]
    if first == len(texts) or texts[first] not in headings:
        raise InvalidText(first)
    lines = 1 + headings.index(texts[first])
    rows = []
    at = first + 1
    while at < len(texts) and len(rows) < MOST_STATES and is_row_text(texts[at], lines):
        victim, behind, *hits = [int(part) for part in texts[at].split(" ")]
        rows.append((victim, behind, tuple(hits)))
        at += 1
    policy = (lines, tuple(rows))
    if not is_policy(policy):
        raise InvalidText(at)
    return policy, at


def is_row_text(text, lines):
    """Return whether a line is that of a row of a policy with so many lines, which may have any number of rows."""
    parts = text.split(" ")
    victim, *states = parts
    if len(states) != 1 + lines or not is_number_text(victim, lines - 1):
        return False
    return all([is_number_text(state, MOST_STATES - 1) for state in states])


def read_program(text):
    """Return the program with a text."""
    places = []
    for at, line in enumerate(texts_in(text)):
        parts = line.split(" ")
        name, *targets = parts
        if at == MOST_PLACES or not is_name(name) or not are_targets_texts(targets):
            raise InvalidText(at)
        places.append((name, tuple([int(target) for target in targets])))
        if len(set([place[0] for place in places])) > MOST_PROGRAM_NAMES:
            raise InvalidText(at)
    program = tuple(places)
    # Only a target can still be wrong, if it has no place yet.
    if not is_program(program):
        raise InvalidText(len(places))
    return program


def are_targets_texts(parts):
    """Return whether parts of a line are the targets of a place, in a program with any number of places."""
    if not all([is_number_text(part, MOST_PLACES - 1) for part in parts]):
        return False
    targets = [int(part) for part in parts]
    return all([before < target for before, target in zip(targets, targets[1:])])


def is_number_text(part, most):
    """Return whether a part of a line is a number up to another one, without a sign or leading zeros."""
    return part in [str(number) for number in range(most + 1)]


def texts_in(text):
    """Return the lines of any value, which must be a text."""
    if not isinstance(text, str):
        raise InvalidText(None)
    return text.split("\n")
