import copy
import random
import unittest

import reference
from helper import nested, odd_values, run_example
from missbounds.catalog import bits, clock, fifo, lifo, lru, mru, named, plru
from missbounds.errors import InvalidPolicy
from missbounds.forgetting import forgets, longest_memory
from refused import check_parameters, values_told
from samples import LRU, ONE, policy_of, random_policy, right_policies, wrong_policies

TITLES = ("lru", "mru", "fifo", "lifo", "clock", "bits", "plru")
# As lru with two rows more, to which nothing leads and which would remember for ever.
UNREACHED = (2, LRU[1] + ((0, 2, (2, 2)), (1, 3, (3, 2))))
NEVER_SECOND = (2, ((0, 0, (0, 0)),))
# Behind a hit on line 0 a miss fills line 1, which may be kept for ever then.
KEEPS_SECOND = (2, ((0, 0, (1, 0)), (1, 0, (1, 1))))


def filled_stages(policy):
    """Return the states with the lines that are filled, which histories lead to."""
    found = [(0, (False,) * policy[0])]
    for state, filled in found:
        victim, after, hits = policy[1][state]
        behind = [(after, tuple([at == victim or mark for at, mark in enumerate(filled)]))]
        behind += [(hits[at], filled) for at, mark in enumerate(filled) if mark]
        found += [stage for stage in dict.fromkeys(behind) if stage not in found]
    return found


def searched(policy):
    """Return the number of different requests after which no line is old, by a search over all moves, or None."""
    places = {(state, tuple(["old" if mark else "empty" for mark in filled])) for state, filled in filled_stages(policy)}
    places = {place for place in places if "old" in place[1]}
    seen = []
    count = 0
    while places:
        if places in seen:
            return None
        seen.append(places)
        count += 1
        places = {behind for place in places for behind in moved(policy, place) if "old" in behind[1]}
    return count


def moved(policy, place):
    """Return what a different request makes of a state and the marks of the lines."""
    state, marks = place
    victim, after, hits = policy[1][state]
    behind = [(after, marks[:victim] + ("new",) + marks[victim + 1:])]
    for line, mark in enumerate(marks):
        if mark == "old":
            behind.append((hits[line], marks[:line] + ("new",) + marks[line + 1:]))
    return behind


class ForgetsTest(unittest.TestCase):

    def test_lru_and_fifo(self):
        for lines in (1, 2, 3, 4):
            self.assertEqual(forgets(lru(lines)), lines)
            self.assertEqual(forgets(policy=fifo(lines)), 2 * lines - 1)

    def test_others_of_the_catalog(self):
        for lines in (2, 3, 4):
            self.assertIsNone(forgets(mru(lines)))
            self.assertIsNone(forgets(lifo(lines)))
            self.assertEqual(forgets(bits(lines)), 2 * lines - 2)
        # Three of the four lines can be hit so that the bits point away from the last one, once each.
        self.assertEqual(forgets(plru(2)), 2)
        self.assertEqual(forgets(plru(4)), 5)
        for title in TITLES:
            self.assertEqual(forgets(named(title, 1)), 1)
            for lines in (1, 2, 3, 4):
                if (title, lines) != ("plru", 3):
                    self.assertEqual(forgets(named(title, lines)), searched(named(title, lines)))

    def test_by_hand(self):
        self.assertEqual(forgets(ONE), 1)
        self.assertEqual(forgets(LRU), 2)
        # A line that is never filled is never old.
        self.assertEqual(forgets(NEVER_SECOND), 1)
        self.assertEqual(forgets((4, ((3, 0, (0, 0, 0, 0)),))), 1)
        # One line is filled, and replaced; the other one stays for ever once it is filled.
        self.assertIsNone(forgets(KEEPS_SECOND))
        self.assertIsNone(forgets((2, ((0, 1, (0, 0)), (1, 1, (1, 1))))))
        # Line 1 is replaced once in five misses, line 0 otherwise.
        slow = (2, tuple([(0, at + 1, (at, at)) for at in range(4)] + [(1, 0, (4, 4))]))
        self.assertEqual(forgets(slow), searched(slow))
        self.assertEqual(forgets(slow), 6)

    def test_rows_that_nothing_leads_to(self):
        self.assertEqual(forgets(UNREACHED), 2)
        self.assertEqual(forgets((2, fifo(2)[1] + ((0, 4, (4, 4)),))), 3)
        self.assertEqual(len(longest_memory(UNREACHED)[1]), 1)
        # Here the last row is reached by a hit on line 1, which is never filled.
        self.assertEqual(forgets((2, ((0, 0, (0, 1)), (1, 1, (1, 1))))), 1)

    def test_against_a_search_over_moves(self):
        chance = random.Random(41)
        found = []
        for lines in (1, 2, 3, 4):
            for states in (1, 2, 3, 4, 6, 8):
                for _ in range(30):
                    policy = random_policy(chance, lines, states)
                    self.assertEqual(forgets(policy), searched(policy))
                    found.append(forgets(policy))
        self.assertIn(None, found)
        self.assertGreater(len(set(found)), 6)

    def test_wheels(self):
        # All requests turn the wheel, and the victim goes round with it: hits let lines be passed by.
        for lines, states in ((2, 2), (2, 4), (2, 6), (3, 3), (3, 6), (4, 4), (4, 8), (4, 12)):
            policy = policy_of(lines, states)
            self.assertEqual(forgets(policy), searched(policy))
            self.check_memory(policy)
        large = (4, tuple([
            (0 if state % 16 else state // 16, (state + 1) % 64, ((state + 7) % 64,) * 4) for state in range(64)]))
        self.assertEqual(forgets(large), searched(large))
        self.check_memory(large)

    def test_a_device_of_many_states_that_never_forgets(self):
        endless = (2, tuple([(1 if state == 1 else 0, state + 1 if state < 63 else 2, (state, state)) for state in range(64)]))
        self.assertIsNone(forgets(endless))
        self.assertIsNone(longest_memory(endless))
        self.assertIsNone(searched(endless))

    def check_memory(self, policy):
        """Follow the longest memory move by move."""
        many = forgets(policy)
        told = longest_memory(policy)
        if many is None:
            self.assertIsNone(told)
            return
        self.assertIsInstance(told, tuple)
        ahead, moves = told
        self.assertIsInstance(ahead, tuple)
        self.assertIsInstance(moves, tuple)
        self.assertEqual(len(moves), many - 1)
        machine = reference.Machine(("cache", policy))
        number = 0
        for move in ahead:
            number += 1
            self.request(machine, move, f"n{number}")
        old = [name is not None for name in machine.lines[0]]
        self.assertIn(True, old)
        for move in moves:
            number += 1
            if move < policy[0]:
                # A different request can only hit a line that is old.
                self.assertTrue(old[move])
            line = self.request(machine, move, f"n{number}")
            old[line] = False
        self.assertIn(True, old)

    def request(self, machine, move, new):
        """Do what a move says: request the name in a line, or a new one. Return the line of the name."""
        self.assertIn(move.__class__, (int,))
        name = new if move == len(machine.lines[0]) else machine.lines[0][move]
        self.assertIsNotNone(name)
        self.assertEqual(machine.request(name), move != len(machine.lines[0]))
        return machine.lines[0].index(name)

    def test_longest_memories(self):
        for title in TITLES:
            for lines in (1, 2, 3, 4):
                if (title, lines) != ("plru", 3):
                    self.check_memory(named(title, lines))
        chance = random.Random(42)
        for lines in (1, 2, 3, 4):
            for states in (1, 2, 3, 5, 8):
                for _ in range(12):
                    self.check_memory(random_policy(chance, lines, states))
        for policy in (ONE, LRU, UNREACHED, NEVER_SECOND, KEEPS_SECOND):
            self.check_memory(policy)
        self.assertEqual(longest_memory(policy=lru(1))[1], ())
        self.assertEqual(len(longest_memory(fifo(4))[1]), 6)

    def test_different_requests_of_caches_that_are_run(self):
        # After as many different requests as `forgets` says, nothing is held that was not requested.
        chance = random.Random(43)
        for title in ("lru", "fifo", "clock", "bits", "plru"):
            for lines in (1, 2, 4):
                many = forgets(named(title, lines))
                for _ in range(40):
                    machine = reference.Machine(("cache", named(title, lines)))
                    for _ in range(chance.randint(0, 12)):
                        machine.request(chance.choice("abcdef"))
                    asked = chance.sample("abcdefghijklmnopqrstuvwxyz", many)
                    for name in asked:
                        machine.request(name)
                    self.assertLessEqual(set(machine.lines[0]) - {None}, set(asked))


class WrongInputTest(unittest.TestCase):

    def test_values_that_are_no_policies(self):
        policies = odd_values() + [0, nested([], 99), ("cache", LRU), [2, LRU[1]], *list(wrong_policies())[::5]]
        wrong = {"policy": values_told(InvalidPolicy, policies)}
        for function in (forgets, longest_memory):
            check_parameters(self, function, ("policy",), (LRU,), wrong)

    def test_arguments_are_not_modified_and_results_are_the_same_again(self):
        for policy in right_policies() + [clock(4), plru(4)]:
            before = copy.deepcopy(policy)
            self.assertEqual(forgets(policy), forgets(policy))
            self.assertEqual(longest_memory(policy), longest_memory(policy))
            self.assertEqual(policy, before)


class ExampleTest(unittest.TestCase):

    def test_examples_of_the_document(self):
        run_example(self, """
>>> from missbounds.catalog import fifo, lru, mru
>>> from missbounds.forgetting import forgets, longest_memory
>>> [forgets(lru(2)), forgets(fifo(2)), forgets(mru(2)), len(longest_memory(fifo(3))[1]), longest_memory(mru(2))]
[2, 3, None, 4, None]
""")


if __name__ == "__main__":
    unittest.main()
