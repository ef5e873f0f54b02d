"""After how many different requests a cache holds nothing from before any more (point 15)."""

from missbounds.graphs import spread, told_on, told_to
from missbounds.policies import check_policy
from missbounds.tuples import exchanged
from missbounds.walks import chosen_walk, weigh

# What stands before the first different request, whatever the history was.
BEFORE = ()


def forgets(policy):
    """Return the least number from 1 on of different requests after which no line is old, or None."""
    check_policy(policy)
    counts, choices, circle = weigh(memory_graph(explore_memory(policy)[3]), (0, 1))
    return None if circle else counts[0]


def longest_memory(policy):
    """Return moves from the empty cache on, and the most moves of different requests that leave an old line.

    Returns None if there are any number of these.
    """
    check_policy(policy)
    stages, stage_rows, nodes, rows = explore_memory(policy)
    graph = memory_graph(rows)
    counts, choices, circle = weigh(graph, (0, 1))
    if circle:
        return None
    stage, *moves = told_on(rows, chosen_walk(graph, choices))
    return told_to(stage_rows, stage), tuple(moves)


def explore_memory(policy):
    """Return the stages and their ways, and what different requests make of them and the ways of these nodes.

    A stage has a state, and for each line True if it is filled, otherwise None: the marks of a cache all of whose
    names are old. The nodes begin with `BEFORE`, from which the ways lead to all stages with a filled line; on them
    the index of the stage is told, on all others the move. All other nodes have an old line.
    """
    lines, rows = policy
    empty = (0, (None,) * lines)
    stages, stage_rows = spread(empty, lambda stage: moves_from(rows, stage, True), None)
    starts = [(index, stage) for index, stage in enumerate(stages) if stage != empty]

    def ways_from(node):
        return starts if node == BEFORE else [way for way in moves_from(rows, node, False) if True in way[1][1]]

    nodes, memory_rows = spread(BEFORE, ways_from, None)
    return stages, stage_rows, nodes, memory_rows


def moves_from(rows, node, mark):
    """Return the moves that hit an old line, and that of a miss, each with the state and the marks behind it.

    The line of the request gets the mark: True in a history before the different requests, False in these.
    """
    state, marks = node
    victim, behind, hits = rows[state]
    old = [line for line in range(len(marks)) if marks[line] is True]
    moves = [(line, (hits[line], exchanged(marks, line, mark))) for line in old]
    return [*moves, (len(marks), (behind, exchanged(marks, victim, mark)))]


def memory_graph(rows):
    """Return the graph of the rows, with each way as a gain, as of `weigh`."""
    return [[(behind, 1, 0) for told, behind in row] for row in rows]
