import copy
import unittest

from helper import nested, odd_values, run_example
from missbounds.errors import InvalidDevice
from missbounds.policies import count_lines, is_device, is_policy
from samples import (
    FOUR, LEVELS, LRU, ONE, THREE, changed_anywhere, policy_of, right_devices, right_policies, small_devices,
    wrong_devices, wrong_policies,
)

class PoliciesTest(unittest.TestCase):

    def check_no_policy(self, value):
        """Check that a value is no policy, and that no device has it as a level."""
        self.assertIs(is_policy(value), False)
        self.assertIs(is_device(("cache", value)), False)

    def test_policies_of_all_sizes(self):
        for policy in right_policies():
            self.assertIs(is_policy(policy), True)
            self.assertIs(is_policy(value=policy), True)
            self.assertIs(is_device(policy), False)

    def test_wrong_policies(self):
        for value in wrong_policies():
            with self.subTest(value=repr(value)[:200]):
                self.check_no_policy(value)

    def test_a_policy_that_is_changed_at_any_depth(self):
        for policy in (ONE, LRU, THREE, FOUR):
            for value in changed_anywhere(policy):
                with self.subTest(value=repr(value)):
                    self.check_no_policy(value)

    def test_values_that_are_no_policies(self):
        for value in odd_values() + [0, 7, nested((), 100), nested([], 99), nested(LRU, 98), [2, LRU[1]], {2: LRU[1]}]:
            with self.subTest(value=repr(value)):
                self.check_no_policy(value)

    def test_all_small_policies_against_the_words_of_the_document(self):
        numbers = (-1, 0, 1, 2)
        found = [
            (victim, after, hit)
            for victim in numbers for after in numbers for hit in numbers
            if is_policy((1, ((0, 1, (0,)), (victim, after, (hit,)))))
        ]
        self.assertEqual(found, [(0, after, hit) for after in (0, 1) for hit in (0, 1)])


class DevicesTest(unittest.TestCase):

    def test_devices_of_all_modes(self):
        for device in right_devices():
            self.assertIs(is_device(device), True)
            self.assertIs(is_device(value=device), True)
            self.assertIs(is_policy(device), False)

    def test_wrong_devices(self):
        for value in wrong_devices():
            with self.subTest(value=repr(value)):
                self.assertIs(is_device(value), False)

    def test_a_device_with_a_wrong_policy_in_a_level(self):
        for policy in wrong_policies():
            with self.subTest(policy=repr(policy)[:200]):
                for mode in LEVELS:
                    self.assertIs(is_device((mode, policy, LRU)), False)
                    self.assertIs(is_device((mode, LRU, policy)), False)

    def test_a_device_that_is_changed_at_any_depth(self):
        for device in small_devices():
            for value in changed_anywhere(device):
                with self.subTest(value=repr(value)):
                    self.assertIs(is_device(value), False)

    def test_values_that_are_no_devices(self):
        for value in odd_values() + [0, 7, nested((), 100), nested([], 99), {"cache": LRU}, ["cache", LRU]]:
            with self.subTest(value=repr(value)):
                self.assertIs(is_device(value), False)


class CountLinesTest(unittest.TestCase):

    def check_refused(self, value):
        """Check that the error has the very value, given by position and by name."""
        with self.assertRaises(InvalidDevice) as context:
            count_lines(value)
        self.assertIs(context.exception.value, value)
        with self.assertRaises(InvalidDevice) as context:
            count_lines(device=value)
        self.assertIs(context.exception.value, value)

    def test_lines_of_a_cache(self):
        for lines in (1, 2, 3, 4):
            for states in (1, 3, 64):
                self.assertEqual(count_lines(("cache", policy_of(lines, states))), lines)
                self.assertEqual(count_lines(device=("cache", policy_of(lines, states))), lines)

    def test_lines_of_both_levels(self):
        for mode in LEVELS:
            for upper in (1, 2, 3, 4):
                for lower in (1, 2, 3, 4):
                    device = (mode, policy_of(upper, 2), policy_of(lower, 64))
                    self.assertEqual(count_lines(device), upper + lower)
                    self.assertEqual(count_lines(device=device), upper + lower)

    def test_what_is_no_device(self):
        for value in odd_values() + [0, nested([], 99), LRU, [LRU], *wrong_devices()]:
            self.check_refused(value)
        for policy in wrong_policies():
            self.check_refused(("cache", policy))
            self.check_refused(("victim", LRU, policy))
        for device in small_devices():
            for value in changed_anywhere(device):
                self.check_refused(value)


class SameAgainTest(unittest.TestCase):

    def test_arguments_are_not_modified_and_results_are_the_same_again(self):
        wrong = [["cache", list(LRU)], {"cache": [LRU]}, ("cache", (2, [LRU[1]])), [1, [[0, 0, [0]]]]]
        for value in right_policies() + right_devices() + wrong:
            before = copy.deepcopy(value)
            first = is_policy(value), is_device(value)
            lines = count_lines(value) if first[1] else None
            self.assertEqual((is_policy(value), is_device(value)), first)
            if first[1]:
                self.assertEqual(count_lines(value), lines)
            else:
                self.assertRaises(InvalidDevice, count_lines, value)
            self.assertEqual(value, before)


class ExampleTest(unittest.TestCase):

    def test_example_of_the_document(self):
        run_example(self, """
>>> from missbounds.policies import count_lines, is_device, is_policy
>>> lru = (2, ((0, 1, (1, 0)), (1, 0, (1, 0))))
>>> [is_policy(lru), is_policy((1, ((0, 1, (0,)),))), is_device(("plain", lru, lru)), count_lines(("victim", lru, (1, ((0, 0, (0,)),))))]
[True, False, True, 3]
""")


if __name__ == "__main__":
    unittest.main()
