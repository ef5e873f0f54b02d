"""What devices do at a request, alone and two of them together, for the checker alone (points 7 to 10)."""

from missbounds.checkerforms import fits_range, lines_of


def empty(device):
    """Return the states and the lines of a device at the beginning."""
    return (0,) * (len(device) - 1), (None,) * lines_of(device)


def request(device, states, contents, name):
    """Request a name from a device. Return whether it was a hit, and the states and the lines behind it."""
    upper = device[1]
    near, far = contents[:upper[0]], contents[upper[0]:]
    if len(device) == 2 or name in near:
        gone, state, lines = demand(upper, states[0], near, name)
        return name in near, (state, *states[1:]), lines + far
    gone, state, near = demand(upper, states[0], near, name)
    if device[0] == "victim":
        low, lines = trade(device[2], states[1], far, name, gone)
    else:
        dropped, low, lines = demand(device[2], states[1], far, name)
        if device[0] == "inclusive" and dropped is not None and dropped in near:
            near = with_line(near, near.index(dropped), None)
    return name in far, (state, low), near + lines


def demand(policy, state, lines, name):
    """Request a name from a level. Return the name whose place it takes, if any, the state and the lines."""
    victim, after, hits = policy[1][state]
    if name in lines:
        return None, hits[lines.index(name)], lines
    return lines[victim], after, with_line(lines, victim, name)


def trade(policy, state, lines, name, gone):
    """Give the lower level of the mode victim what the upper one let go for a name. Return the state and the lines."""
    victim, after, hits = policy[1][state]
    if name in lines:
        return hits[lines.index(name)], with_line(lines, lines.index(name), gone)
    if gone is None:
        return state, lines
    return after, with_line(lines, victim, gone)


def with_line(lines, index, name):
    """Return lines of which one holds another name."""
    return (*lines[:index], name, *lines[index + 1:])


def count_held(contents):
    """Return how many names lines hold."""
    return len({name for name in contents if name is not None})


def count_allowed(situation, allowed):
    """Return how many steps from a situation are allowed: these are the integers that are less."""
    held = count_held(situation[1])
    return held if allowed is not None and held >= allowed else held + 1


def both_empty(one, other):
    """Return the situation of two devices at the beginning."""
    states, contents = empty(one)
    far_states, far = empty(other)
    return states + far_states, contents + far


def step_behind(one, other, situation, step):
    """Follow a step. Return for each device 1 for a miss or 0 for a hit, and the situation behind it."""
    states, contents = situation
    levels, lines = len(one) - 1, lines_of(one)
    hit, near_states, near = request(one, states[:levels], contents[:lines], step)
    far_hit, far_states, far = request(other, states[levels:], contents[lines:], step)
    return 0 if hit else 1, 0 if far_hit else 1, (near_states + far_states, numbered(near + far))


def numbered(contents):
    """Return lines with the number of each name, in the order in which they first occur."""
    numbers = {None: None}
    for name in contents:
        if name not in numbers:
            numbers[name] = len(numbers) - 1
    return tuple([numbers[name] for name in contents])


def walk(one, other, allowed, situation, steps):
    """Follow any value as steps. Return the misses of each device, and the situation behind them.

    Returns None if the value is not a tuple of steps that are allowed.
    """
    if not isinstance(steps, tuple):
        return None
    misses = far_misses = 0
    for step in steps:
        if not fits_range(step, count_allowed(situation, allowed)):
            return None
        missed, far_missed, situation = step_behind(one, other, situation, step)
        misses += missed
        far_misses += far_missed
    return misses, far_misses, situation
