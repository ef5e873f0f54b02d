"""The plain form of a policy by the words of point 14, with a table of all pairs of stages."""


def stages_of(policy):
    """Return the stages that histories lead to."""
    found = [(0, ())]
    for stage in found:
        for behind in [miss_of(policy, stage)[1]] + hits_of(policy, stage):
            if behind not in found:
                found.append(behind)
    return found


def miss_of(policy, stage):
    """Return the place that a miss replaces, and the stage behind it."""
    state, filled = stage
    victim, after, hits = policy[1][state]
    if victim in filled:
        return filled.index(victim), (after, filled)
    return len(filled), (after, filled + (victim,))


def hits_of(policy, stage):
    """Return the stages behind the hits on the places."""
    state, filled = stage
    return [(policy[1][state][2][line], filled) for line in filled]


def equal_in_effect(policy):
    """Return the pairs of stages that are equal in effect: all pairs, less those that something tells apart."""
    stages = stages_of(policy)
    moves = {stage: [miss_of(policy, stage)[1]] + hits_of(policy, stage) for stage in stages}
    equal = {
        (one, other) for one in stages for other in stages
        if len(one[1]) == len(other[1]) and miss_of(policy, one)[0] == miss_of(policy, other)[0]
    }
    apart = True
    while apart:
        apart = {
            (one, other) for one, other in equal
            if any(pair not in equal for pair in zip(moves[one], moves[other]))
        }
        equal -= apart
    return equal


def plain_form(policy):
    """Return the plain form of a policy, whatever the number of its rows is."""
    equal = equal_in_effect(policy)
    classes = [(0, ())]
    rows = []

    def number(stage):
        for at, other in enumerate(classes):
            if (stage, other) in equal:
                return at
        classes.append(stage)
        return len(classes) - 1

    lines = max(len(filled) for state, filled in stages_of(policy))
    while len(rows) < len(classes):
        own = len(rows)
        place, behind = miss_of(policy, classes[own])
        after = number(behind)
        hits = [number(stage) for stage in hits_of(policy, classes[own])]
        rows.append((place, after, tuple(hits + [own] * (lines - len(hits)))))
    return lines, tuple(rows)
