"""Claims over what a cache still knows after different requests, for the checker alone (point 15).

A node is a pair of a state and the marks of the lines. Among stages a line is marked with True if it is filled,
otherwise with False; among different requests with True if it is old, None if it is empty, otherwise with False.
"""

from missbounds.checkerforms import fits_number, fits_range, fits_tuple, members_of, worths_of


def shows_forgets(policy, many, evidence):
    """Return whether stages and ranks show that no line is old after any so many different requests."""
    if not fits_tuple(evidence, 2):
        return False
    stages = members_of(evidence[0], lambda value: fits_node(policy, value, False))
    ranks = worths_of(evidence[1], lambda value: fits_node(policy, value, True), fits_number)
    if stages is None or ranks is None or empty_stage(policy) not in stages:
        return False
    for stage in stages:
        if not all([moved(policy, stage, move, True) in stages for move in moves_of(stage)]):
            return False
        if True in stage[1] and not ranks.get(all_old(stage), many) < many:
            return False
    return all([goes_down(policy, ranks, node) for node in ranks])


def shows_remembers(policy, many, evidence):
    """Return whether moves show that a line can be old after so many different requests."""
    if not fits_tuple(evidence, 2) or not fits_tuple(evidence[1], many):
        return False
    node = after_moves(policy, evidence[0], evidence[1])
    return node is not None and True in node[1]


def shows_never_forgets(policy, evidence):
    """Return whether moves show that a line can be old after any number of different requests."""
    if not fits_tuple(evidence, 3):
        return False
    ahead, moves, circle = evidence
    node = after_moves(policy, ahead, moves)
    if node is None or fits_tuple(circle, 0):
        return False
    # A node has marks, so None, for moves that are none, is never equal to it.
    return True in node[1] and run_moves(policy, node, circle, False) == node


def fits_node(policy, value, with_empty):
    """Return whether any value has a state and marks for the lines of a policy; None is one if `with_empty` is True."""
    lines, rows = policy
    if not fits_tuple(value, 2) or not fits_range(value[0], len(rows)) or not fits_tuple(value[1], lines):
        return False
    return all([isinstance(mark, bool) or with_empty and mark is None for mark in value[1]])


def goes_down(policy, ranks, node):
    """Return whether each different request behind which a line is old leads from a node to one with a lesser rank."""
    later = [moved(policy, node, move, False) for move in moves_of(node)]
    return all([ranks.get(behind, ranks[node]) < ranks[node] for behind in later if True in behind[1]])


def empty_stage(policy):
    """Return the stage of the empty cache."""
    return 0, (False,) * policy[0]


def all_old(stage):
    """Return the node of a stage before the first different request."""
    state, filled = stage
    return state, tuple([True if mark else None for mark in filled])


def moves_of(node):
    """Return the moves from a node: hits on the lines that are marked with True, and a miss."""
    marks = node[1]
    return [line for line in range(len(marks)) if marks[line] is True] + [len(marks)]


def moved(policy, node, move, mark):
    """Return the node behind a move, after which the line of the request has this mark."""
    state, marks = node
    victim, after, hits = policy[1][state]
    line = victim if move == len(marks) else move
    return after if move == len(marks) else hits[line], (*marks[:line], mark, *marks[line + 1:])


def run_moves(policy, node, moves, mark):
    """Return the node behind any value as moves, or None if it is not a tuple of moves."""
    if not isinstance(moves, tuple):
        return None
    for move in moves:
        if not fits_number(move) or move not in moves_of(node):
            return None
        node = moved(policy, node, move, mark)
    return node


def after_moves(policy, ahead, moves):
    """Return the node behind moves from the empty cache on and then moves of different requests, or None."""
    stage = run_moves(policy, empty_stage(policy), ahead, True)
    return None if stage is None else run_moves(policy, all_old(stage), moves, False)


CHECKS = {"forgets": shows_forgets, "remembers": shows_remembers, "never forgets": shows_never_forgets}


def accepts_memory(word, told, evidence):
    """Return whether evidence shows a claim over a policy; what is told behind its word has its form."""
    if word not in CHECKS:
        return False
    check = CHECKS[word]
    return check(*told, evidence)
