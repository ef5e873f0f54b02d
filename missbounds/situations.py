"""Situations of two devices, and the steps between them (points 9 and 10)."""

from missbounds.devices import start_of
from missbounds.errors import InvalidSituation, InvalidStep, InvalidSteps
from missbounds.kinds import is_between, is_tuple, is_whole
from missbounds.limits import MOST_REQUESTS
from missbounds.names import LETTERS, check_history
from missbounds.pairs import (
    beginning, check_count, check_pair, count_steps, explore, follow, numbers_in, place_behind, renumbered,
    request_both,
)


def situation_of(one, other, names):
    """Return the situation of two devices after a history."""
    check_pair(one, other)
    check_history(names)
    states, contents = place_behind(one, other, names)
    return states, renumbered(contents)


def after(one, other, situation, step):
    """Return the answers of two devices to the request of a step, and the situation after it."""
    check_pair(one, other)
    if not is_situation(one, other, situation):
        raise InvalidSituation(situation)
    if not is_between(step, 0, count_steps(situation, None) - 1):
        raise InvalidStep(step)
    return follow(one, other, situation, step)


def steps_of(one, other, names):
    """Return the steps of a history."""
    check_pair(one, other)
    check_history(names)
    place = beginning(one, other)
    steps = []
    for name in names:
        numbers = numbers_in(place[1])
        steps.append(numbers.get(name, len(numbers)))
        place = request_both(one, other, place, name)[2]
    return tuple(steps)


def names_of(one, other, steps):
    """Return the names of steps from the beginning."""
    check_pair(one, other)
    if not is_tuple(steps, 0, MOST_REQUESTS):
        raise InvalidSteps(None)
    return names_from(one, other, beginning(one, other), steps)


def names_from(one, other, place, steps):
    """Return the names of steps from a situation with names on. Raises InvalidSteps for what is not a step there."""
    names = []
    for index, step in enumerate(steps):
        held = list(numbers_in(place[1]))
        if not is_between(step, 0, len(held)):
            raise InvalidSteps(index)
        names.append(held[step] if step < len(held) else first_spare(held))
        place = request_both(one, other, place, names[-1])[2]
    return tuple(names)


def each_situation(one, other, *, names=None):
    """Yield all situations that steps with at most so many names lead to, in the order of these steps."""
    check_pair(one, other)
    check_count(names)
    yield from explore(one, other, names)[0]


def first_spare(held):
    """Return the first spare name that is not held."""
    # Two devices have at most 16 lines, so one of the spare names of one letter is always free.
    return [letter for letter in LETTERS if letter not in held][0]


def is_situation(one, other, value):
    """Return whether any value is a situation of two devices."""
    if not is_tuple(value, 2, 2):
        return False
    states, contents = value
    return are_states(one[1:] + other[1:], states) and are_contents(one, other, contents)


def are_states(policies, value):
    """Return whether any value has a state for each policy."""
    if not is_tuple(value, len(policies), len(policies)):
        return False
    return all([is_between(state, 0, len(policy[1]) - 1) for state, policy in zip(value, policies)])


def are_contents(one, other, value):
    """Return whether any value is what the lines of two devices may hold in a situation."""
    lines = len(start_of(one)[1])
    many = lines + len(start_of(other)[1])
    if not is_tuple(value, many, many):
        return False
    if not all([number is None or is_whole(number) for number in value]):
        return False
    return value == renumbered(value) and each_once(one, value[:lines]) and each_once(other, value[lines:])


def each_once(device, contents):
    """Return whether no number is twice in what may not hold it twice: a level, or both ones of the mode victim."""
    lines = device[1][0]
    parts = [contents] if device[0] == "victim" else [contents[:lines], contents[lines:]]
    return all([len(numbers_in(part)) == len([name for name in part if name is not None]) for part in parts])
