"""Plain forms of policies, and whether devices answer alike (points 11 and 14)."""

from missbounds.pairs import check_count, check_pair, explore, first_difference
from missbounds.policies import check_policy
from missbounds.stages import plain_form


def plain(policy):
    """Return the plain form of a policy."""
    check_policy(policy)
    rows = policy[1]

    def miss(state):
        victim, after, hits = rows[state]
        return victim, after

    def hit(state, line):
        return rows[state][2][line]

    return plain_form(0, miss, hit)


def are_alike(one, other, *, names=None):
    """Return whether two devices answer alike all histories, with at most so many names."""
    return difference(one, other, names=names) is None


def difference(one, other, *, names=None):
    """Return the least of the shortest steps of which the last one is answered differently, or None."""
    check_pair(one, other)
    check_count(names)
    return first_difference(explore(one, other, names)[1])
