"""What happens to the requests of a program on all its paths (point 16)."""

from missbounds.devices import serve, start_of
from missbounds.errors import InvalidCount, InvalidProgram
from missbounds.graphs import spread
from missbounds.kinds import is_between, is_tuple
from missbounds.limits import MOST_PLACES, MOST_SITUATIONS
from missbounds.names import is_name
from missbounds.policies import check_device
from missbounds.walks import greatest_ratio, weigh

MOST_PROGRAM_NAMES = 8
LONGEST_PATH = 12


def is_program(value):
    """Return whether any value is a program."""
    if not is_tuple(value, 1, MOST_PLACES) or not all([is_place(place, len(value)) for place in value]):
        return False
    return len(set([name for name, targets in value])) <= MOST_PROGRAM_NAMES


def is_place(value, many):
    """Return whether any value is a place of a program with so many places."""
    if not is_tuple(value, 2, 2):
        return False
    name, targets = value
    if not is_name(name) or not is_tuple(targets, 0, many):
        return False
    if not all([is_between(target, 0, many - 1) for target in targets]):
        return False
    return all([before < target for before, target in zip(targets, targets[1:])])


def check_program(value):
    """Raise InvalidProgram if any value is not a program."""
    if not is_program(value):
        raise InvalidProgram(value)


def verdicts(device, program):
    """Return a word for each place of a program: "hit", "miss", "both" or "never"."""
    check_device(device)
    check_program(program)
    moments = explore_paths(device, program)[0]
    misses = [is_miss(device, program, moment) for moment in moments]
    return tuple([verdict_of(place, moments, misses) for place in range(len(program))])


def most_misses(device, program):
    """Return the greatest number of misses on a path, or None if there is no greatest one."""
    check_device(device)
    check_program(program)
    moments, rows = explore_paths(device, program)
    counts, choices, circle = weigh(path_graph(device, program, moments, rows), (0, 1))
    return None if circle else counts[0]


def worst_rate(device, program):
    """Return the least fraction of the requests that the misses exceed on no path by more than some number."""
    check_device(device)
    check_program(program)
    moments, rows = explore_paths(device, program)
    return greatest_ratio(path_graph(device, program, moments, rows))[0]


def each_path(program, length):
    """Yield the paths of a program with so many elements, in ascending order."""
    check_program(program)
    if not is_between(length, 1, LONGEST_PATH):
        raise InvalidCount(length)
    yield from longer_paths(program, (0,), length)


def longer_paths(program, path, length):
    """Yield the paths with so many elements that begin with a path, in ascending order."""
    if len(path) == length:
        yield path
        return
    for target in program[path[-1]][1]:
        longer = (*path, target)
        yield from longer_paths(program, longer, length)


def explore_paths(device, program):
    """Return the moments of a device on the paths of a program, and a row of the ways of each one.

    The way at a place of a row is that to the target at this place. Raises TooManySituations.
    """
    return spread((0, *start_of(device)), lambda moment: moment_ways(device, program, moment), MOST_SITUATIONS)


def moment_ways(device, program, moment):
    """Return the ways from a moment: pairs of a target of its place, and the moment behind it."""
    place, states, contents = moment
    name, targets = program[place]
    hit, later_states, later = serve(device, states, contents, name)
    return [(target, (target, later_states, later)) for target in targets]


def is_miss(device, program, moment):
    """Return whether the request of a moment is a miss."""
    place, states, contents = moment
    return not serve(device, states, contents, program[place][0])[0]


def path_graph(device, program, moments, rows):
    """Return the graph of moments with these rows, with the misses as gains and the requests as losses, as of `weigh`.

    Behind the moments it has a node for the end, to which each moment leads, so the request of the last place of a
    path counts too.
    """
    graph = []
    for moment, row in zip(moments, rows):
        gain = 1 if is_miss(device, program, moment) else 0
        graph.append([(behind, gain, 1) for told, behind in row] + [(len(moments), gain, 1)])
    return [*graph, []]


def verdict_of(place, moments, misses):
    """Return the word for a place, by the moments on all paths and whether their requests are misses."""
    told = [miss for moment, miss in zip(moments, misses) if moment[0] == place]
    if not told:
        return "never"
    if all(told):
        return "miss"
    return "both" if any(told) else "hit"
