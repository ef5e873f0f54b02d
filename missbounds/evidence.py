"""Evidence, which the checker accepts, for what the package says of devices, policies, programs and histories."""

from missbounds.bounds import miss_graph, way_outside
from missbounds.errors import InvalidPlace
from missbounds.forgetting import explore_memory, longest_memory, memory_graph
from missbounds.graphs import told_on, told_to, way_to
from missbounds.kinds import is_between
from missbounds.optimum import best_keeping, best_weights
from missbounds.pairs import check_count, check_pair, explore, first_difference
from missbounds.policies import check_device, check_policy
from missbounds.programs import check_program, explore_paths, is_miss, path_graph
from missbounds.ratios import in_lowest_terms
from missbounds.walks import chosen_walk, greatest_ratio, weigh


def within_evidence(one, other, *, names=None):
    """Return the claim "within" with the least ratio and excess, and its evidence, or None if there are none."""
    situations, rows = explored(one, other, names)
    graph = miss_graph(rows)
    ratio = greatest_ratio(graph)[0]
    if ratio is None:
        return None
    worths = [in_lowest_terms(count, ratio[1]) for count in weigh(graph, ratio)[0]]
    return ("within", one, other, names, ratio, worths[0]), tuple(zip(situations, worths))


def reached_evidence(one, other, *, names=None):
    """Return the claim "reached" with the least ratio and excess, or "endless" if there are none, and its evidence."""
    situations, rows = explored(one, other, names)
    graph = miss_graph(rows)
    ratio, circle = greatest_ratio(graph)
    # The ratio 0 has no circle.
    ahead = way_to(rows, circle[0][0]) if circle else ()
    steps = tuple([step for node, step in circle])
    if ratio is None:
        return ("endless", one, other, names), (ahead, steps)
    counts, choices, better = weigh(graph, ratio)
    path = tuple([step for node, step in chosen_walk(graph, choices)])
    return ("reached", one, other, names, ratio, in_lowest_terms(counts[0], ratio[1])), (ahead, steps, path)


def alike_evidence(one, other, *, names=None):
    """Return the claim "alike" or "differ", and its evidence."""
    situations, rows = explored(one, other, names)
    steps = first_difference(rows)
    if steps is None:
        return ("alike", one, other, names), tuple(situations)
    return ("differ", one, other, names), steps


def inside_evidence(one, other, *, names=None):
    """Return the claim "inside" or "outside", and its evidence."""
    situations, rows = explored(one, other, names)
    steps = way_outside(one, situations, rows)
    if steps is None:
        return ("inside", one, other, names), tuple(situations)
    return ("outside", one, other, names), steps


def forgets_evidence(policy):
    """Return the claim "forgets" with the least number, or "never forgets", and its evidence."""
    check_policy(policy)
    stages, stage_rows, nodes, rows = explore_memory(policy)
    counts, choices, circle = weigh(memory_graph(rows), (0, 1))
    if not circle:
        filled = tuple([(state, tuple([mark is not None for mark in marks])) for state, marks in stages])
        # The first node is what stands before the different requests.
        return ("forgets", policy, counts[0]), (filled, tuple(zip(nodes[1:], counts[1:])))
    stage, *moves = told_to(rows, circle[0][0])
    return ("never forgets", policy), (told_to(stage_rows, stage), tuple(moves), told_on(rows, circle))


def remembers_evidence(policy):
    """Return the claim "remembers" with the greatest number, and its evidence, or None if there is no such number."""
    memory = longest_memory(policy)
    return None if memory is None else (("remembers", policy, len(memory[1])), memory)


def verdict_evidence(device, program, place, answer):
    """Return the claim "always" with an answer, or "sometimes" with the other one, and its evidence."""
    check_device(device)
    check_program(program)
    if not is_between(place, 0, len(program) - 1):
        raise InvalidPlace(place)
    moments, rows = explore_paths(device, program)
    for index, moment in enumerate(moments):
        if moment[0] == place and is_miss(device, program, moment) == answer:
            return ("sometimes", device, program, place, not answer), (0, *told_to(rows, index))
    return ("always", device, program, place, answer), tuple(moments)


def misses_evidence(device, program):
    """Return the claim "at most" with the greatest number of misses, or "no most", and its evidence."""
    moments, rows, graph = explored_paths(device, program)
    counts, choices, circle = weigh(graph, (0, 1))
    if not circle:
        return ("at most", device, program, counts[0]), tuple(zip(moments, counts))
    first = circle[0][0]
    # What is behind a moment is the next one, so the first one comes last.
    places = tuple([moments[node][0] for node, place in circle[1:]]) + (moments[first][0],)
    return ("no most", device, program), ((0, *told_to(rows, first)), places)


def path_evidence(device, program):
    """Return the claim "so many" with the greatest number of misses, and its evidence, or None if there is none."""
    moments, rows, graph = explored_paths(device, program)
    counts, choices, circle = weigh(graph, (0, 1))
    if circle:
        return None
    path = tuple([moments[node][0] for node, place in chosen_walk(graph, choices)])
    return ("so many", device, program, counts[0]), path


def least_evidence(names, lines):
    """Return the claim "least" with the least misses of a history, and its evidence."""
    kept = best_keeping(names, lines)
    return ("least", names, lines, kept.count(False)), (kept, best_weights(names, lines))


def explored(one, other, names):
    """Return the situations of two devices and their rows, as `explore`, for arguments that may be wrong."""
    check_pair(one, other)
    check_count(names)
    return explore(one, other, names)


def explored_paths(device, program):
    """Return the moments of a device, their rows and their graph, for arguments that may be wrong."""
    check_device(device)
    check_program(program)
    moments, rows = explore_paths(device, program)
    return moments, rows, path_graph(device, program, moments, rows)
