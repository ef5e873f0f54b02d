"""By how much one device can miss more often than another one (points 12 and 13)."""

from missbounds.devices import start_of
from missbounds.errors import InvalidRatio
from missbounds.graphs import way_to
from missbounds.pairs import check_count, check_pair, explore
from missbounds.ratios import in_lowest_terms, is_fraction
from missbounds.walks import greatest_ratio, weigh


def bound(one, other, *, names=None):
    """Return the least ratio and with it the least excess so that `one` is within them of `other`, or None."""
    check_pair(one, other)
    check_count(names)
    graph = miss_graph(explore(one, other, names)[1])
    ratio = greatest_ratio(graph)[0]
    return None if ratio is None else (ratio, excess_for(graph, ratio))


def least_excess(one, other, ratio, *, names=None):
    """Return the least excess for a ratio, or None if there is none for it."""
    check_pair(one, other)
    if not is_fraction(ratio):
        raise InvalidRatio(ratio)
    check_count(names)
    return excess_for(miss_graph(explore(one, other, names)[1]), ratio)


def is_never_worse(one, other, *, names=None):
    """Return whether in no history `one` has more misses than `other`."""
    return least_excess(one, other, (1, 1), names=names) == (0, 1)


def first_outside(one, other, *, names=None):
    """Return the least of the shortest steps after which `one` is outside `other`, or None."""
    check_pair(one, other)
    check_count(names)
    situations, rows = explore(one, other, names)
    return way_outside(one, situations, rows)


def way_outside(one, situations, rows):
    """Return the least of the shortest steps to one of the situations in which `one` is outside, or None."""
    lines = len(start_of(one)[1])
    for index, (states, contents) in enumerate(situations):
        if is_outside(contents[:lines], contents[lines:]):
            return way_to(rows, index)
    return None


def is_outside(near, far):
    """Return whether some name in the lines of a device is not in those of another one."""
    return any([name is not None and name not in far for name in near])


def miss_graph(rows):
    """Return the graph of situations with these rows, with misses of `one` as gains and those of `other` as losses."""
    return [[(behind, 0 if hit else 1, 0 if other_hit else 1) for (hit, other_hit), behind in row] for row in rows]


def excess_for(graph, ratio):
    """Return the least excess for a ratio, or None if there is none for it."""
    counts, choices, circle = weigh(graph, ratio)
    return None if circle else in_lowest_terms(counts[0], ratio[1])
