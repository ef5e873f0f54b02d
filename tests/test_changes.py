import copy
import random
import unittest

import reference
from helper import odd_values, run_example
from missbounds.bounds import is_never_worse
from missbounds.catalog import fifo, lru, mru
from missbounds.changes import each_change, mended
from missbounds.errors import InvalidCount, InvalidDevice, InvalidPolicy, TooManySituations, TooManyStates
from missbounds.policies import is_policy
from refused import check_parameters, check_refused, values_told
from samples import (
    LRU, ONE, PAIR_601, THREE, miss_counter, policy_of, random_device, random_policy, right_policies, wrong_devices,
    wrong_policies,
)


def numbers_of(policy):
    """Return the numbers of the rows of a policy, row by row."""
    return [number for victim, after, hits in policy[1] for number in (victim, after, *hits)]


def policy_with(lines, numbers):
    """Return the policy of so many lines with these numbers in its rows."""
    width = lines + 2
    rows = [numbers[at:at + width] for at in range(0, len(numbers), width)]
    return lines, tuple([(row[0], row[1], tuple(row[2:])) for row in rows])


def changes_of(policy):
    """Return the changes of a policy: each number in turn, counted up from 0 on."""
    lines, rows = policy
    numbers = numbers_of(policy)
    found = []
    for at, number in enumerate(numbers):
        for other in range(lines if at % (lines + 2) == 0 else len(rows)):
            if other != number:
                found.append(policy_with(lines, numbers[:at] + [other] + numbers[at + 1:]))
    return found


class EachChangeTest(unittest.TestCase):

    def test_in_order(self):
        chance = random.Random(1)
        policies = right_policies()[:12] + [LRU, THREE] + [
            random_policy(chance, chance.randint(1, 4), chance.randint(1, 8)) for _ in range(40)]
        for policy in policies:
            self.assertEqual(list(each_change(policy)), changes_of(policy))

    def test_counted(self):
        for lines in (1, 2, 3, 4):
            for states in (1, 2, 3, 7, 64):
                policy = policy_of(lines, states)
                found = list(each_change(policy))
                self.assertEqual(len(found), states * (lines - 1 + (lines + 1) * (states - 1)))
                self.assertEqual(len(set(found)), len(found))
                self.assertNotIn(policy, found)

    def test_each_is_a_policy_and_differs_in_one_number(self):
        for policy in (LRU, THREE, policy_of(4, 5), policy_of(1, 6)):
            for changed in each_change(policy=policy):
                self.assertTrue(is_policy(changed))
                pairs = list(zip(numbers_of(policy), numbers_of(changed)))
                self.assertEqual(len([one for one, other in pairs if one != other]), 1)
                self.assertEqual((changed[0], len(changed[1])), (policy[0], len(policy[1])))

    def test_by_hand(self):
        self.assertEqual(list(each_change(ONE)), [])
        self.assertEqual(list(each_change((2, ((1, 0, (0, 0)),)))), [(2, ((0, 0, (0, 0)),))])
        self.assertEqual(list(each_change((1, ((0, 1, (0,)), (0, 1, (1,)))))), [
            (1, ((0, 0, (0,)), (0, 1, (1,)))), (1, ((0, 1, (1,)), (0, 1, (1,)))),
            (1, ((0, 1, (0,)), (0, 0, (1,)))), (1, ((0, 1, (0,)), (0, 1, (0,)))),
        ])
        found = list(each_change((3, ((1, 0, (0, 0, 0)),))))
        self.assertEqual([policy[1][0][0] for policy in found], [0, 2])

    def test_wrong_inputs(self):
        wrong = {"policy": values_told(InvalidPolicy, [*wrong_policies(), *odd_values()])}
        check_parameters(self, each_change, ("policy",), (LRU,), wrong)
        # Nothing is raised before the iteration begins.
        later = each_change(None)
        with self.assertRaises(InvalidPolicy):
            next(later)


class MendedTest(unittest.TestCase):

    def searched(self, policy, other, names):
        """Return the first that is never worse, by each change in turn, and how many were passed by."""
        passed = 0
        for candidate in [policy] + changes_of(policy):
            try:
                if is_never_worse(("cache", candidate), other, names=names):
                    return candidate, passed
            except TooManySituations:
                passed += 1
        return None, passed

    def test_against_each_change_in_turn(self):
        chance = random.Random(2)
        found = []
        others = [("cache", lru(1)), ("cache", mru(2)), ("cache", lru(2)), ("cache", fifo(2)), ("cache", ONE)]
        for _ in range(50):
            policy = random_policy(chance, chance.randint(1, 2), chance.randint(1, 3))
            other = chance.choice(others) if chance.random() < 0.7 else random_device(chance, "victim", 1, 1)
            if chance.random() < 0.5:
                # One number of a policy is wrong, as it often is when one is written.
                whole = chance.choice((LRU, fifo(2), mru(2)))
                policy, other = chance.choice(changes_of(whole)), ("cache", whole)
            names = chance.choice((None, None, 1, 2, 3, 12))
            right = self.searched(policy, other, names)[0]
            self.assertEqual(mended(policy, other, names=names), right)
            found.append("none" if right is None else "itself" if right == policy else "changed")
        for word in ("none", "itself", "changed"):
            self.assertGreater(found.count(word), 3, word)

    def test_never_worse_in_short_histories(self):
        # Line 1 is never filled: the first change that fills it is the one.
        policy = (2, ((0, 0, (0, 0)), (1, 0, (0, 0))))
        other = ("cache", lru(1))
        for target in (other, ("cache", fifo(2)), ("cache", mru(2))):
            told = mended(policy, target)
            for steps, pair, answers in reference.each_steps(("cache", told or policy), target, 6):
                if told is not None:
                    names = pair.asked
                    self.assertLessEqual(
                        reference.misses(("cache", told), names), reference.misses(target, names))

    def test_the_policy_itself(self):
        for policy in (LRU, ONE, THREE, policy_of(4, 8), lru(2), fifo(2)):
            self.assertEqual(mended(policy, ("cache", policy)), policy)
            self.assertEqual(mended(policy, ("cache", policy), names=1), policy)

    def test_a_change(self):
        # The last hit of lru, once wrong.
        wrong = (2, ((0, 1, (0, 0)), (1, 0, (1, 0))))
        self.assertFalse(is_never_worse(("cache", wrong), ("cache", LRU)))
        self.assertEqual(mended(wrong, ("cache", LRU)), LRU)

    def test_none(self):
        self.assertIsNone(mended(ONE, ("cache", lru(2))))
        self.assertIsNone(mended((2, ((0, 0, (0, 0)),)), ("cache", lru(2))))

    def test_numbers_of_names(self):
        policy = (2, ((0, 0, (0, 0)),))
        other = ("cache", lru(2))
        # With one name each cache misses once.
        self.assertEqual(mended(policy, other, names=1), policy)
        for names in range(2, 13):
            self.assertIsNone(mended(policy, other, names=names))
            self.assertEqual(mended(policy, ("cache", lru(1)), names=names), policy)
        self.assertEqual(mended((1, ((0, 0, (0,)),)), ("cache", lru(3)), names=1), (1, ((0, 0, (0,)),)))

    def test_policies_with_too_many_situations_are_passed_by(self):
        # With all of them too many situations can be reached, as the other device has so many itself.
        great = ("plain", *[miss_counter(64)[1], (1, tuple([(0, (state + 1) % 63, (state,)) for state in range(63)]))])
        with self.assertRaises(TooManySituations):
            is_never_worse(("cache", ONE), great)
        self.assertIsNone(mended(ONE, great))
        self.assertIsNone(mended(LRU, great, names=12))

    def test_the_first_that_is_not_passed_by(self):
        other = ("cache", (1, tuple([(0, (state + 1) % 64, ((state + 5) % 64,)) for state in range(64)])))
        found = []
        for states in (6, 8):
            wheel = miss_counter(states)[1]
            right, passed = self.searched(wheel, other, None)
            self.assertEqual(mended(wheel, other), right)
            found.append((right == wheel, passed))
        for lines, states in ((2, 4), (3, 3)):
            policy = policy_of(lines, states)
            right, passed = self.searched(policy, other, None)
            self.assertEqual(mended(policy, other), right)
            found.append((right == policy, passed))
        # Some are passed by, and one behind them is found.
        self.assertTrue([passed for itself, passed in found if passed and not itself], found)

    def test_8_and_9_rows(self):
        self.assertEqual(mended(policy_of(1, 8), ("cache", ONE)), policy_of(1, 8))
        for states in (9, 10, 64):
            check_refused(self, TooManyStates, {"limit": 8}, mended, policy_of(1, states), ("cache", ONE))
            check_refused(self, TooManyStates, {"limit": 8}, mended, policy_of(4, states), PAIR_601[0], names=12)
            # After all others.
            check_refused(self, InvalidDevice, {"value": 7}, mended, policy_of(1, states), 7)
            check_refused(self, InvalidCount, {"value": 13}, mended, policy_of(1, states), ("cache", ONE), names=13)

    def test_wrong_inputs(self):
        wrong = {
            "policy": values_told(InvalidPolicy, [("cache", LRU), *wrong_policies(), *odd_values()]),
            "other": values_told(InvalidDevice, [LRU, *wrong_devices(), *odd_values()]),
            "names": values_told(InvalidCount, [0, 13, 10 ** 39, "1", (1,), *[
                value for value in odd_values() if value is not None]]),
        }
        right = (LRU, ("cache", LRU), 2)
        check_parameters(self, mended, ("policy", "other", "names"), right, wrong, ("names",))
        with self.assertRaises(TypeError):
            mended(LRU, ("cache", LRU), 2)

    def test_the_same_again_and_nothing_modified(self):
        policy, other = (2, ((0, 1, (0, 0)), (1, 0, (1, 0)))), ("cache", LRU)
        before = copy.deepcopy((policy, other))
        self.assertEqual(mended(policy=policy, other=other), mended(policy, other))
        self.assertEqual(list(each_change(policy)), list(each_change(policy)))
        self.assertEqual((policy, other), before)

    def test_example(self):
        run_example(self, '''
            >>> from missbounds.catalog import lru
            >>> from missbounds.changes import each_change, mended
            >>> policy = (2, ((0, 0, (0, 0)),))
            >>> [list(each_change(policy)), mended(policy, ("cache", lru(1))) == policy, mended(policy, ("cache", lru(2)))]
            [[(2, ((1, 0, (0, 0)),))], True, None]
        ''')


if __name__ == "__main__":
    unittest.main()
