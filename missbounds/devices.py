"""How a device serves requests (points 7 and 8).

The states and the contents of a device are tuples: a state for each level, and for each line a name or None,
those of the upper level first. A name may be anything that can be compared: numbers stand for names elsewhere.
"""

from missbounds.tuples import exchanged


def start_of(device):
    """Return the states and the contents of a device at the beginning."""
    lines = sum([policy[0] for policy in device[1:]])
    return (0,) * (len(device) - 1), (None,) * lines


def serve(device, states, contents, name):
    """Request a name. Return the answer, and the states and the contents behind it."""
    if device[0] == "cache":
        hit, state, contents, left = ask(device[1], states[0], contents, name)
        return hit, (state,), contents
    return serve_levels(device, states, contents, name)


def serve_levels(device, states, contents, name):
    """Request a name from two levels. Return the answer, and the states and the contents behind it."""
    mode, upper, lower = device
    near, far = contents[:upper[0]], contents[upper[0]:]
    hit, state, near, left = ask(upper, states[0], near, name)
    if hit:
        return True, (state, states[1]), contents
    if mode == "victim":
        hit, low, far = swap(lower, states[1], far, name, left)
        return hit, (state, low), near + far
    hit, low, far, dropped = ask(lower, states[1], far, name)
    if mode == "inclusive":
        near = tuple([None if held == dropped else held for held in near])
    return hit, (state, low), near + far


def ask(policy, state, level, name):
    """Request a name from a level. Return whether it was there, the state, the lines and what was replaced."""
    victim, after, hits = policy[1][state]
    if name in level:
        return True, hits[level.index(name)], level, None
    return False, after, exchanged(level, victim, name), level[victim]


def swap(policy, state, level, name, left):
    """Take a name out of the lower level of the mode victim, and put what left the upper one into it.

    Return whether the name was there, the state and the lines.
    """
    victim, after, hits = policy[1][state]
    if name in level:
        line = level.index(name)
        return True, hits[line], exchanged(level, line, left)
    if left is None:
        return False, state, level
    return False, after, exchanged(level, victim, left)
