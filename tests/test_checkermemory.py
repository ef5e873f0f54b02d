"""The claims of the checker over what a cache still knows, each thing that is said about them broken by itself."""

import itertools
import random
import unittest

from claims import KEEPS, RIGHT, ClaimTest
from helper import put
from missbounds.catalog import fifo, lru
from missbounds.checker import accepts
from samples import LRU, ONE, policy_of, random_policy
from truths import is_true

# A cache that fills line 1 alone, by hits and misses.
SECOND = (2, ((1, 0, (0, 0)),))


class ForgetsTest(ClaimTest):

    def test_by_hand(self):
        stages = ((0, (False,)), (0, (True,)))
        self.accepted(("forgets", ONE, 1), (stages, (((0, (True,)), 0),)))
        self.rejected(("forgets", ONE, 0), (stages, (((0, (True,)), 0),)), (stages, ()))
        self.rejected(("forgets", ONE, 1), (stages, ()), (stages, (((0, (True,)), 1),)), ((), ()), (stages[:1], ()))
        self.accepted(("forgets", ONE, 2), (stages, (((0, (True,)), 1),)), (stages, (((0, (True,)), 0),)))
        self.rejected(("forgets", ONE, 1), (stages + ((0, (None,)),), (((0, (True,)), 0),)))
        # A line that is never filled.
        stages = ((0, (False, False)), (0, (False, True)))
        self.accepted(("forgets", SECOND, 1), (stages, (((0, (None, True)), 0),)))
        self.rejected(("forgets", SECOND, 1), (stages, (((0, (True, True)), 0),)), (stages, (((0, (False, True)), 0),)))

    def test_stages(self):
        claim, (stages, ranks) = RIGHT["forgets"]
        for order in itertools.permutations(stages):
            self.accepted(claim, (order, ranks))
        for index, stage in enumerate(stages):
            self.rejected(claim, (stages[:index] + stages[index + 1:], ranks), (stages + (stage,), ranks))
        self.rejected(claim, ((), ranks), (list(stages), ranks), (stages[0], ranks), (dict(stages), ranks))
        marks = (True, True)
        for wrong in (
                (2, marks), (-1, marks), (True, marks), (None, marks), (0, (True,)), (0, marks + (True,)), (0, (1, 1)), (0, (1, True)),
                (0, (True, None)), (0, (None, None)), (0, list(marks)), (0, marks, 0), (0,), marks, (marks, 0), 0, None, ("0", marks)):
            self.rejected(claim, (stages + (wrong,), ranks), (put(stages, (3,), wrong), ranks))

    def test_stages_that_are_not_reached_count_too(self):
        claim, (stages, ranks) = RIGHT["forgets"]
        # A line is filled in them, so what different requests make of them is asked for.
        self.rejected(claim, (stages + ((1, (False, True)),), ranks))
        extra = ((1, (None, True)), 1)
        self.rejected(claim, (stages + ((1, (False, True)),), ranks + (extra,)))
        # These come behind it.
        more = (((0, (None, True)), 1), ((0, (None, False)), 0))
        wider = stages + ((1, (False, True)), (0, (False, True)))
        self.rejected(claim, (wider, ranks + (extra,)))
        self.accepted(claim, (wider, ranks + (extra,) + more))
        self.accepted(claim, (wider, ranks + (extra,) + more[:1]))

    def test_ranks(self):
        claim, (stages, ranks) = RIGHT["forgets"]
        for order in itertools.permutations(ranks):
            self.accepted(claim, (stages, order))
        for index, (node, rank) in enumerate(ranks):
            self.rejected(claim, (stages, ranks[:index] + ranks[index + 1:]), (stages, ranks + ((node, rank),)))
            self.rejected(claim, (stages, ranks + ((node, rank + 1),)), (stages, ((node, 0),) + ranks))
            # A rank that does not go down: as great as the one behind it, or less.
            self.rejected(claim, (stages, put(ranks, (index, 1), 1 - rank)))
            for wrong in (-1, True, False, None, "0", (0,), [0]):
                self.rejected(claim, (stages, put(ranks, (index, 1), wrong)))
            for wrong in ((node,), (node, rank, rank), (rank, node), node, rank, [node, rank], (*node, rank)):
                self.rejected(claim, (stages, put(ranks, (index,), wrong)))
        self.rejected(claim, (stages, ()), (stages, list(ranks)), (stages, dict(ranks)))

    def test_marks(self):
        claim, (stages, ranks) = RIGHT["forgets"]
        for wrong in (1, 0, "old", (), (True,), 2, -1):
            for path in ((0, 0, 1, 0), (0, 0, 1, 1), (3, 0, 1, 1), (4, 0, 1, 0)):
                self.rejected(claim, (stages, put(ranks, path, wrong)))
        for wrong in ((2, (True, True)), (-1, (True, True)), (True, (True, True)), (0, (True,)), (0, (True,) * 3), (0, [True] * 2)):
            self.rejected(claim, (stages, ranks + ((wrong, 5),)))
        # Pairs that nothing leads to, and of which no line is old behind each request, may be there.
        for node in ((0, (None, None)), (1, (False, False)), (0, (False, None)), (1, (None, True)), (0, (True, None))):
            self.accepted(claim, (stages, ranks + ((node, 0),)), (stages, ranks + ((node, 9),)))
        # Behind a miss, line 1 of this one is old, with the rank 0.
        self.rejected(claim, (stages, ranks + (((0, (None, True)), 0),)))
        self.accepted(claim, (stages, ranks + (((0, (None, True)), 1),)))

    def test_numbers(self):
        claim, evidence = RIGHT["forgets"]
        for many in (2, 3, 64, 10 ** 39):
            self.accepted(put(claim, (2,), many), evidence)
        for many in (1, 0, -1, True, False, None, "2", (2,)):
            self.rejected(put(claim, (2,), many), evidence)
        # Ranks may be far above the least ones, if the number is.
        stages, ranks = evidence
        raised = tuple([(node, 5 * rank + 7) for node, rank in ranks])
        self.accepted(put(claim, (2,), 13), (stages, raised))
        self.rejected(put(claim, (2,), 12), (stages, raised))

    def test_form(self):
        claim, (stages, ranks) = RIGHT["forgets"]
        self.rejected(claim, (ranks, stages), (stages,), (stages, ranks, ranks), stages, ranks, [stages, ranks], None)

    def test_other_policies(self):
        claim, evidence = RIGHT["forgets"]
        for policy in (ONE, KEEPS, SECOND, fifo(2), (2, ((0, 1, (1, 0)), (1, 0, (1, 1)))), (2, LRU[1][::-1])):
            self.rejected(put(claim, (1,), policy), evidence)


class RemembersTest(ClaimTest):

    def test_moves(self):
        claim, evidence = RIGHT["remembers"]
        self.accepted(claim, ((2, 2), (2,)), ((2, 2, 2), (2,)), ((2, 2, 0), (2,)), ((2, 2, 0), (1,)), ((2,) * 5000, (2,)))
        # Behind ahead there must be an old line that is kept.
        self.rejected(claim, ((), (2,)), ((2,), (0,)), ((), ()))
        # Line 0 is requested last, so the miss takes line 1; with one line filled alone it is kept.
        self.accepted(claim, ((2,), (2,)), ((2, 0), (2,)))
        # Hits on lines that are empty or do not exist.
        self.rejected(claim, ((0,), (2,)), ((2, 1), (2,)), ((2, 2, 3), (2,)), ((2, 2), (3,)), ((2,), (1,)))

    def test_numbers(self):
        claim, evidence = RIGHT["remembers"]
        for many in (0, 2, 3, 10 ** 39):
            self.rejected(put(claim, (2,), many), evidence)
        for many in (-1, True, None, "1"):
            self.rejected(put(claim, (2,), many), evidence)
        self.accepted(put(claim, (2,), 0), ((2,), ()), ((2, 2), ()), ((2, 0, 2, 1), ()))
        self.rejected(put(claim, (2,), 0), ((), ()), ((0,), ()), ((2,), (2,)))
        # No policy of two lines that replaces the oldest keeps one behind two different requests.
        self.rejected(put(claim, (2,), 2), ((2, 2), (2, 2)), ((2, 2), (0, 2)), ((2, 2), (0, 1)), ((2, 2), (1, 0)))
        self.accepted(("remembers", fifo(2), 2), ((2, 2), (0, 2)))
        self.rejected(("remembers", fifo(2), 2), ((2, 2), (1, 2)), ((2, 2), (2, 2)))

    def test_different_requests(self):
        # A line that was requested, by a hit or a miss, is not hit again.
        policy = KEEPS
        self.accepted(("remembers", policy, 3), ((2,), (2, 2, 2)), ((2, 2), (1, 2, 2)), ((2, 2), (2, 2, 2)))
        self.rejected(("remembers", policy, 3), ((2,), (2, 1, 2)), ((2, 2), (1, 1, 2)), ((2,), (1, 2, 2)), ((2, 2), (2, 1, 2)))
        # A hit on the last old line.
        self.rejected(("remembers", policy, 3), ((2, 2), (0, 2, 2)), ((2, 2), (2, 2, 0)))

    def test_form(self):
        claim, (ahead, moves) = RIGHT["remembers"]
        self.rejected(claim, (moves, ahead), (ahead,), (ahead, moves, ()), ahead, ahead + moves, [ahead, moves])
        for wrong in (None, 2, "22", [2, 2], (2, True), (True, 2), (2, -1), (2, "2"), (2, None), ((2, 2),), {2: 2}):
            self.rejected(claim, (wrong, moves))
        for wrong in (None, 2, "2", [2], (True,), (False,), (-1,), ("2",), (None,), ((2,),), {2: 2}, (), (2, 2)):
            self.rejected(claim, (ahead, wrong))


class NeverForgetsTest(ClaimTest):

    def test_moves(self):
        claim, evidence = RIGHT["never forgets"]
        self.accepted(claim, ((2,), (2,), (2,)), ((2, 2), (2,), (2, 2, 2)), ((2,), (2, 2), (2,)), ((2, 2, 1), (2,), (2,)))
        self.accepted(claim, ((2, 2), (1,), (2,)), ((2,), (2,), (2,) * 5000))
        # No circle, none that closes, and one without an old line.
        self.rejected(claim, ((2,), (2,), ()), ((2,), (), (2,)), ((2, 2), (), (2,)), ((2, 2), (0,), (2,)), ((), (2,), (2,)))
        self.accepted(("never forgets", (2, ((0, 1, (0, 0)), (1, 2, (1, 1)), (1, 1, (1, 1))))), ((2,), (2,), (2, 2)))
        self.rejected(("never forgets", (2, ((0, 1, (0, 0)), (1, 2, (1, 1)), (1, 1, (1, 1))))), ((2,), (2,), (2,)))

    def test_all_lines_new(self):
        # The same state and marks come again, but no line is old.
        self.rejected(("never forgets", ONE), ((1,), (1,), (1,)), ((1,), (), (1,)), ((), (), (1,)))
        self.rejected(("never forgets", LRU), ((2, 2), (2, 2), (2, 2)), ((2, 2), (2,), (2, 2)), ((2, 2), (2,), (2,)))

    def test_moves_that_are_none(self):
        claim, evidence = RIGHT["never forgets"]
        # Line 1 was requested before, so it is not hit again; line 2 does not exist as a line, 3 is no move.
        self.rejected(claim, ((2,), (2,), (1,)), ((2,), (2,), (2, 1)), ((2,), (1,), (2,)), ((2,), (2,), (3,)), ((3,), (2,), (2,)))
        self.rejected(claim, ((1,), (2,), (2,)), ((0,), (2,), (2,)), ((2, 1), (2,), (2,)))

    def test_form(self):
        claim, evidence = RIGHT["never forgets"]
        self.rejected(claim, evidence[:2], evidence + ((2,),), evidence[0], [*evidence], (evidence,))
        for index in range(3):
            for wrong in (None, 2, "2", [2], (True,), (False,), (-1,), ("2",), (None,), ((2,),), {2: 2}):
                self.rejected(claim, put(evidence, (index,), wrong))

    def test_other_policies(self):
        claim, evidence = RIGHT["never forgets"]
        for policy in (LRU, fifo(2), lru(2), SECOND, ONE, lru(3)):
            self.rejected(put(claim, (1,), policy), evidence)


class AllTest(unittest.TestCase):

    def test_whatever_is_accepted_is_true(self):
        chance = random.Random(1)
        accepted = dict.fromkeys(("remembers", "never forgets"), 0)
        for _ in range(150):
            policy = random_policy(chance, chance.randint(1, 3), chance.randint(1, 3))
            lines = policy[0]
            for _ in range(40):
                ahead = tuple([chance.choice((lines, lines, chance.randint(0, lines))) for _ in range(chance.randint(0, 4))])
                moves, circle = [
                    tuple([chance.choice((lines, lines, lines, chance.randint(0, lines))) for _ in range(chance.randint(0, 3))])
                    for _ in range(2)
                ]
                for claim, evidence in (
                        (("remembers", policy, len(moves)), (ahead, moves)), (("never forgets", policy), (ahead, moves, circle))):
                    if accepts(claim, evidence):
                        accepted[claim[0]] += 1
                        self.assertTrue(is_true(claim), (claim, evidence))
        for word, count in accepted.items():
            self.assertGreater(count, 20, word)

    def test_ranks_that_are_accepted_are_true(self):
        chance = random.Random(2)
        accepted = 0
        for _ in range(300):
            policy = random_policy(chance, chance.randint(1, 2), chance.randint(1, 3))
            lines, rows = policy
            states = range(len(rows))
            stages = tuple(itertools.product(states, itertools.product((False, True), repeat=lines)))
            nodes = tuple(itertools.product(states, itertools.product((None, False, True), repeat=lines)))
            # Ranks by steps down from the nodes without old lines; what is left has none, or a random one.
            for most in range(1, 5):
                ranks = ranks_of(policy, nodes, most)
                kept = tuple([(node, rank if chance.random() < 0.98 else chance.randint(0, most)) for node, rank in ranks])
                claim = ("forgets", policy, chance.randint(0, most + 1))
                for evidence in ((stages, kept), (reached(policy), kept), (reached(policy), tuple(ranks))):
                    if accepts(claim, evidence):
                        accepted += 1
                        self.assertTrue(is_true(claim), (claim, evidence))
        self.assertGreater(accepted, 50)

    def test_many_stages(self):
        policy = policy_of(4, 64)
        stages = reached(policy)
        self.assertGreater(len(stages), 200)
        nodes = tuple(itertools.product(range(64), itertools.product((None, False, True), repeat=4)))
        ranks = tuple([(node, rank) for node, rank in ranks_of(policy, nodes, 40)])
        most = max(rank for node, rank in ranks) + 1
        self.assertIs(accepts(("forgets", policy, most), (stages, ranks)), True)
        self.assertIs(accepts(("forgets", policy, most), (stages[1:], ranks)), False)
        self.assertIs(accepts(("forgets", policy, most - 1), (stages, ranks)), False)


def reached(policy):
    """Return the stages that histories lead to."""
    lines, rows = policy
    found = [(0, (False,) * lines)]
    for state, filled in found:
        victim, after, hits = rows[state]
        later = [(after, tuple([mark or line == victim for line, mark in enumerate(filled)]))]
        later += [(hits[line], filled) for line in range(lines) if filled[line]]
        found += [stage for stage in dict.fromkeys(later) if stage not in found]
    return tuple(found)


def ranks_of(policy, nodes, most):
    """Return the pairs of nodes with old lines, and for how many different requests one is old at most, below a number."""
    lines, rows = policy
    left = [node for node in nodes if True in node[1]]
    ranks = {}
    for rank in range(most):
        found = []
        for state, marks in left:
            victim, after, hits = rows[state]
            later = [(after, marks[:victim] + (False,) + marks[victim + 1:])]
            later += [
                (hits[line], marks[:line] + (False,) + marks[line + 1:]) for line in range(lines) if marks[line] is True]
            if all(node in ranks for node in later if True in node[1]):
                found.append((state, marks))
        ranks.update(dict.fromkeys(found, rank))
        left = [node for node in left if node not in ranks]
    return list(ranks.items())


if __name__ == "__main__":
    unittest.main()
