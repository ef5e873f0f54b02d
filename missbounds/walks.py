"""Greatest counts and ratios of gains and losses on all walks through a graph.

A graph is a list with a row for each node. A row is a list of ways: triples with the index of the node to which the
way leads, its gain and its loss, which are 0 or 1. All nodes can be reached from the node 0. A circle is a list of
pairs of a node and the place of a way in its row.
"""

from missbounds.ratios import in_lowest_terms


def weigh(graph, ratio):
    """Count, on all walks, the gains less `ratio` times the losses.

    Return a triple: the greatest count of a walk from each node on, times the lower part of the ratio; for each
    node the place of the way that begins such a walk, or None if it has no way; and a circle with a count above 0,
    which makes the rest meaningless, or an empty list if there is none.
    """
    top, bottom = ratio
    counts = [0] * len(graph)
    choices = [None] * len(graph)
    circle = []
    changed = True
    while changed and not circle:
        changed = False
        for node in reversed(range(len(graph))):
            for place, (behind, gain, loss) in enumerate(graph[node]):
                count = counts[behind] + bottom * gain - top * loss
                if count > counts[node]:
                    counts[node] = count
                    choices[node] = place
                    changed = True
        # A choice is made only if it raises the count, so a circle of choices has a count above 0.
        circle = circle_of(graph, choices)
    return counts, choices, circle


def circle_of(graph, choices):
    """Return a circle that follows the choices of places, or an empty list if there is none."""
    seen_from = {}
    for first in range(len(graph)):
        node = first
        trail = []
        while node not in seen_from and choices[node] is not None:
            seen_from[node] = first
            trail.append((node, choices[node]))
            node = graph[node][choices[node]][0]
        if seen_from.get(node) == first:
            return trail[[passed for passed, place in trail].index(node):]
    return []


def chosen_walk(graph, choices):
    """Return the walk from the node 0 on that follows the choices of places, as a list like a circle."""
    trail = []
    node = 0
    while choices[node] is not None:
        trail.append((node, choices[node]))
        node = graph[node][choices[node]][0]
    return trail


def sums_of(graph, circle):
    """Return the gains and the losses on a circle."""
    ways = [graph[node][place] for node, place in circle]
    return sum([gain for behind, gain, loss in ways]), sum([loss for behind, gain, loss in ways])


def greatest_ratio(graph):
    """Find the greatest ratio of gains to losses on a circle; it is 0 if there is no circle with a gain.

    Return a pair: the ratio, or None if a circle has gains and no losses; and a circle with this ratio, or without
    losses, or an empty list if the ratio is 0.
    """
    ratio = (0, 1)
    found = []
    while better := weigh(graph, ratio)[2]:
        found = better
        gains, losses = sums_of(graph, found)
        if losses == 0:
            return None, found
        ratio = in_lowest_terms(gains, losses)
    return ratio, found
