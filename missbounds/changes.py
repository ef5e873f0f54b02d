"""Policies that differ from another one in one number, and which of them is never worse than a device."""

from missbounds.bounds import is_never_worse
from missbounds.errors import TooManySituations, TooManyStates
from missbounds.limits import MOST_MENDED
from missbounds.pairs import check_count
from missbounds.policies import check_device, check_policy
from missbounds.tuples import exchanged


def each_change(policy):
    """Yield the policies that differ from a policy in one number of its rows, in the order of the numbers."""
    check_policy(policy)
    lines, rows = policy
    for index, (victim, behind, hits) in enumerate(rows):
        changed = [(other, behind, hits) for other in others_than(victim, lines)]
        changed.extend([(victim, other, hits) for other in others_than(behind, len(rows))])
        for line, state in enumerate(hits):
            changed.extend([
                (victim, behind, exchanged(hits, line, other)) for other in others_than(state, len(rows))
            ])
        for row in changed:
            yield lines, exchanged(rows, index, row)


def mended(policy, other, *, names=None):
    """Return the policy or the first of its changes whose cache is never worse than a device, or None."""
    check_policy(policy)
    check_device(other)
    check_count(names)
    if len(policy[1]) > MOST_MENDED:
        raise TooManyStates(MOST_MENDED)
    candidates = list(each_change(policy))
    for candidate in [policy, *candidates]:
        if keeps_up(candidate, other, names):
            return candidate
    return None


def keeps_up(policy, other, names):
    """Return whether the cache of a policy can be looked at and is never worse than a device."""
    try:
        return is_never_worse(("cache", policy), other, names=names)
    except TooManySituations:
        return False


def others_than(value, many):
    """Return the numbers from 0 on, so many of them, but for one."""
    return [other for other in range(many) if other != value]
