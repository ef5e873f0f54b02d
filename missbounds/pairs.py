"""Two devices that get the same requests: their situations and steps (points 9 and 10)."""

from missbounds.devices import serve, start_of
from missbounds.errors import InvalidCount
from missbounds.graphs import spread, way_to
from missbounds.kinds import is_between
from missbounds.limits import MOST_NAMES, MOST_SITUATIONS
from missbounds.policies import check_device


def check_pair(one, other):
    """Raise InvalidDevice if the first or the second one of any values is not a device."""
    check_device(one)
    check_device(other)


def check_count(value):
    """Raise InvalidCount if any value is neither None nor a number of names that can be asked for."""
    if value is not None and not is_between(value, 1, MOST_NAMES):
        raise InvalidCount(value)


def beginning(one, other):
    """Return the situation of two devices at the beginning."""
    states, contents = start_of(one)
    other_states, other_contents = start_of(other)
    return states + other_states, contents + other_contents


def numbers_in(contents):
    """Return a number for each name in contents, from 0 on in the order in which they first occur."""
    numbers = {}
    for name in contents:
        if name is not None:
            numbers.setdefault(name, len(numbers))
    return numbers


def renumbered(contents):
    """Return contents with their numbers in the place of names."""
    numbers = numbers_in(contents)
    # None has no number, so what stands for it is None again.
    return tuple([numbers.get(name) for name in contents])


def count_steps(situation, most):
    """Return how many steps there are from a situation, with at most so many names."""
    known = len(numbers_in(situation[1]))
    return known + 1 if most is None or known < most else known


def request_both(one, other, situation, name):
    """Return the answers of both devices to a request, and the situation behind it, with the names as they are."""
    states, contents = situation
    levels = len(one) - 1
    lines = len(start_of(one)[1])
    hit, near_states, near = serve(one, states[:levels], contents[:lines], name)
    other_hit, far_states, far = serve(other, states[levels:], contents[lines:], name)
    return hit, other_hit, (near_states + far_states, near + far)


def place_behind(one, other, names):
    """Return the situation of both devices behind a history, with the names as they are."""
    place = beginning(one, other)
    for name in names:
        place = request_both(one, other, place, name)[2]
    return place


def follow(one, other, situation, step):
    """Return the answers of both devices to the request of a step, and the situation behind it."""
    hit, other_hit, (states, contents) = request_both(one, other, situation, step)
    return hit, other_hit, (states, renumbered(contents))


def ways_of(one, other, situation, most):
    """Return what the steps with at most so many names lead to: pairs of both answers, and the situation."""
    ways = []
    for step in range(count_steps(situation, most)):
        hit, other_hit, behind = follow(one, other, situation, step)
        ways.append(((hit, other_hit), behind))
    return ways


def explore(one, other, most):
    """Return the situations that steps with at most so many names lead to, and a row of the ways of each one.

    Situations and rows are as of `spread`: a step is the place of its way in the row, which is a pair of both
    answers and the index of the situation behind it. Raises TooManySituations.
    """
    return explore_from(one, other, beginning(one, other), most)


def explore_from(one, other, begin, most):
    """Return what `explore` does, from another situation on."""
    return spread(begin, lambda situation: ways_of(one, other, situation, most), MOST_SITUATIONS)


def first_difference(rows):
    """Return the least of the shortest steps through rows of which the last one is answered differently, or None."""
    # The rows come in the order of the ways to them, so the first step that differs is the one asked for.
    for index, row in enumerate(rows):
        for step, ((hit, other_hit), behind) in enumerate(row):
            if hit != other_hit:
                return (*way_to(rows, index), step)
    return None
