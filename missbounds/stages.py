"""The plain form of what behaves like a policy (point 14)."""

from missbounds.errors import TooManyStates
from missbounds.graphs import spread
from missbounds.limits import MOST_STATES


def plain_form(begin, miss, hit):
    """Return the plain form of what a policy does, from the state `begin` on.

    `miss` is a function of a state: it returns the line that a miss replaces, and the state behind it. `hit` is a
    function of a state and a line: it returns the state behind a hit on the line. States are what dicts take as
    keys. Raises TooManyStates if the plain form would have more rows than a policy may have.
    """
    stages, ways = spread((begin, ()), lambda stage: stage_ways(stage, miss, hit), None)
    kinds = kinds_of_stages(ways)
    lines = max([len(filled) for state, filled in stages])
    return lines, tuple([row_of(state, kinds, ways, lines) for state in range(max(kinds) + 1)])


def stage_ways(stage, miss, hit):
    """Return the ways from a stage with the places that they tell: first the miss, then the hits."""
    state, filled = stage
    victim, behind = miss(state)
    later = filled if victim in filled else filled + (victim,)
    hits = [(place, (hit(state, line), filled)) for place, line in enumerate(filled)]
    return [(later.index(victim), (behind, later)), *hits]


def kinds_of_stages(ways):
    """Return the number of the class of each stage, by the ways of the stages.

    The numbers are given in the order of the stages. In this order the rows name the classes too, as both go by
    the shortest ways from the beginning, and of these by the least.
    """
    # The place that a miss replaces and the number of hits tell what a stage does at once.
    kinds = numbered([(row[0][0], len(row)) for row in ways])
    while True:
        if max(kinds) >= MOST_STATES:
            raise TooManyStates(MOST_STATES)
        finer = numbered([(kind, *[kinds[behind] for told, behind in row]) for kind, row in zip(kinds, ways)])
        if max(finer) == max(kinds):
            return finer
        kinds = finer


def numbered(keys):
    """Return a number for each key, equal ones for equal keys, from 0 on in the order of their first places."""
    numbers = {}
    for key in keys:
        numbers.setdefault(key, len(numbers))
    return [numbers[key] for key in keys]


def row_of(state, kinds, ways, lines):
    """Return the row of the plain form for a class of stages."""
    (victim, behind), *hits = ways[kinds.index(state)]
    targets = [kinds[target] for place, target in hits] + [state] * (lines - len(hits))
    return victim, kinds[behind], tuple(targets)
