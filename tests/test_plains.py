import copy
import itertools
import random
import unittest

import reference
from helper import nested, odd_values, run_example
from missbounds.catalog import fifo, lifo, lru, mru, named
from missbounds.errors import InvalidCount, InvalidDevice, InvalidPolicy, TooManySituations, TooManyStates
from missbounds.plains import are_alike, difference, plain
from missbounds.traces import answers
from plainforms import plain_form, stages_of
from refused import check_parameters, check_refused, values_told
from samples import (
    LEVELS, LRU, ONE, PAIR_600, PAIR_601, THREE, counter, policy_of, random_device, random_history, random_policy,
    right_devices, right_policies, wrong_devices, wrong_policies,
)

MODES = ("cache",) + LEVELS
WRONG_COUNTS = [0, 13, 14, -1, 10 ** 39, -10 ** 39, "1", (1,), [1], {1: 1}, {1}, 600]


def wheel(states, first):
    """Return the rows of a wheel of states, from the number `first` on, of which the last one has another victim."""
    rows = [(0, first + at + 1, (first + at + 1,) * 2) for at in range(states - 1)]
    return *rows, (1, first, (first, first))


# A row for the empty cache, one for a filled line, and a wheel for the full cache.
WHEEL_64 = (2, ((0, 1, (0, 0)), (1, 2, (1, 1)), *wheel(62, 2)))
# As before, but a hit on the one line leads to row 0, where a miss does not fill the other line: a stage more.
WHEEL_65 = (2, ((0, 1, (0, 0)), (1, 2, (0, 0)), *wheel(62, 2)))
WHEEL_63 = (2, ((0, 1, (0, 0)), (1, 2, (1, 1)), *wheel(61, 2)))


class PlainTest(unittest.TestCase):

    def test_by_hand(self):
        single = (1, ((0, 1, (0,)), (0, 1, (1,))))
        # A line that is never filled is left out; so are rows that nothing leads to, and rows with equal effect.
        self.assertEqual(plain((2, ((0, 0, (0, 0)),))), single)
        self.assertEqual(plain((2, ((1, 0, (0, 0)),))), single)
        self.assertEqual(plain((4, ((3, 0, (0, 0, 0, 0)),))), single)
        self.assertEqual(plain((1, ((0, 2, (1,)), (0, 0, (2,)), (0, 1, (0,))))), single)
        self.assertEqual(plain((2, ((1, 0, (1, 0)), (0, 1, (0, 1))))), single)
        self.assertEqual(plain(ONE), single)
        self.assertEqual(plain((1, ((0, 0, (0,)),) * 64)), single)

    def test_lines_that_are_filled_in_another_order(self):
        expected = (2, ((0, 1, (0, 0)), (1, 2, (1, 1)), (0, 3, (2, 2)), (1, 2, (3, 3))))
        self.assertEqual(plain((2, ((0, 1, (0, 0)), (1, 0, (1, 1))))), expected)
        self.assertEqual(plain((2, ((1, 1, (0, 0)), (0, 0, (1, 1))))), expected)
        self.assertEqual(plain((3, ((2, 1, (0, 0, 0)), (0, 0, (1, 1, 1))))), expected)
        self.assertEqual(plain((4, ((3, 1, (0,) * 4), (1, 0, (1,) * 4)))), expected)
        # Both lines are filled by misses, or only one of them if it is hit before.
        self.assertEqual(plain((2, ((1, 1, (0, 0)), (0, 1, (0, 0))))), (2, (
            (0, 1, (0, 0)), (1, 2, (3, 1)), (1, 2, (4, 4)), (0, 1, (3, 3)), (0, 2, (4, 4)))))

    def test_victims_and_hits_are_told_by_places(self):
        # Three lines, filled in the order 2, 0, 1; then line 0 is replaced always, and a hit on line 2 changes that.
        table = (3, (
            (2, 1, (0, 0, 0)), (0, 2, (1, 1, 1)), (1, 3, (2, 2, 2)), (0, 3, (3, 3, 4)), (2, 4, (4, 4, 4)),
        ))
        self.assertEqual(plain(table), (3, (
            (0, 1, (0, 0, 0)), (1, 2, (1, 1, 1)), (2, 3, (2, 2, 2)), (1, 3, (4, 3, 3)), (0, 4, (4, 4, 4)))))

    def test_states_are_numbered_as_the_rows_name_them(self):
        # The row of the full cache names the state behind a miss first, then those behind the hits.
        table = (2, (
            (0, 1, (0, 0)), (1, 4, (1, 1)), (0, 2, (2, 2)), (1, 3, (3, 3)), (1, 3, (2, 4)), (0, 5, (5, 4)),
        ))
        self.assertEqual(plain(table), (2, (
            (0, 1, (0, 0)), (1, 2, (1, 1)), (1, 3, (4, 2)), (1, 3, (3, 3)), (0, 4, (4, 4)))))

    def test_one_line(self):
        for states in (1, 2, 3, 64):
            self.assertEqual(plain(policy_of(1, states)), (1, ((0, 1, (0,)), (0, 1, (1,)))))

    def test_the_most_rows(self):
        self.assertEqual(plain(WHEEL_63), WHEEL_63)
        self.assertEqual(plain(WHEEL_64), WHEEL_64)
        self.assertEqual(len(plain(WHEEL_64)[1]), 64)
        self.assertEqual(len(plain_form(WHEEL_65)[1]), 65)
        check_refused(self, TooManyStates, {"limit": 64}, plain, WHEEL_65)
        check_refused(self, TooManyStates, {"limit": 64}, plain, policy=WHEEL_65)
        # Many stages may have few rows: here all that matters is which lines are filled.
        many = policy_of(4, 64)
        self.assertGreater(len(stages_of(many)), 64)
        check_refused(self, TooManyStates, {"limit": 64}, plain, (4, tuple(
            (0 if state % 5 else state % 4, (state * 7 + 1) % 64, tuple((state + line * 3) % 64 for line in range(4)))
            for state in range(64))))
        same = (2, tuple([(0, 1, (0, 0))] + [(1, (state + 1) % 63 + 1, (1, 1)) for state in range(63)]))
        self.assertEqual(plain(same), (2, ((0, 1, (0, 0)), (1, 2, (1, 1)), (1, 2, (2, 2)))))

    def test_against_the_words_of_the_document(self):
        chance = random.Random(8)
        for lines in (1, 2, 3, 4):
            for states in (1, 2, 3, 4, 5):
                for _ in range(16 if lines < 4 else 5):
                    policy = random_policy(chance, lines, states)
                    self.check_plain(policy, plain_form(policy))

    def check_plain(self, policy, expected):
        if len(expected[1]) > 64:
            check_refused(self, TooManyStates, {"limit": 64}, plain, policy)
            return
        self.assertEqual(plain(policy), expected)
        self.assertEqual(plain(policy=policy), expected)
        self.assertEqual(plain(expected), expected)

    def test_the_plain_form_answers_alike(self):
        chance = random.Random(9)
        for lines in (1, 2, 3):
            for states in (1, 2, 3, 4):
                for _ in range(10):
                    policy = random_policy(chance, lines, states)
                    form = plain(policy)
                    history = random_history(chance, tuple("abcde"), 300)
                    self.assertEqual(answers(("cache", form), history), answers(("cache", policy), history))

    def test_equal_plain_forms_and_alike_caches(self):
        # All policies of two lines with two states whose first row takes line 0, each second one.
        numbers = itertools.product((0, 1), repeat=7)
        policies = [(2, ((0, a, (b, c)), (d, e, (f, g)))) for a, b, c, d, e, f, g in numbers][::2] + [lru(2), fifo(2)]
        forms = [plain(policy) for policy in policies]
        for one, form in list(zip(policies, forms))[::6]:
            for other, other_form in zip(policies, forms):
                self.assertEqual(are_alike(("cache", one), ("cache", other)), form == other_form)


class DifferenceTest(unittest.TestCase):

    def first_difference(self, one, other, most, length):
        """Return the least of the shortest steps that differ, by a search over all steps up to a length."""
        for steps, pair, told in reference.each_steps(one, other, length, most):
            if told is not None and told[0] != told[1]:
                return steps
        return None

    def test_against_a_search_over_all_short_steps(self):
        chance = random.Random(10)
        for mode in MODES:
            for other_mode in MODES:
                for most in (None, 1, 2, 3, 12):
                    one = random_device(chance, mode, most_lines=2, most_states=3)
                    other = random_device(chance, other_mode, most_lines=2, most_states=3)
                    self.check(one, other, most)

    def check(self, one, other, most):
        if reference.situations(one, other, most, limit=600) is None:
            check_refused(self, TooManySituations, {"limit": 600}, difference, one, other, names=most)
            return
        found = difference(one, other, names=most)
        self.assertEqual(are_alike(one, other, names=most), found is None)
        searched = self.first_difference(one, other, most, 5)
        if searched is not None or found is not None and len(found) <= 5:
            self.assertEqual(found, searched)
        elif found is not None:
            told = reference.followed(one, other, found)[1]
            self.assertEqual([hit == more for hit, more in told], [True] * (len(found) - 1) + [False])
        else:
            for told in reference.situations(one, other, most).values():
                self.assertTrue(all(hit == more for (hit, more), behind in told))

    def test_devices_that_part_late(self):
        # Two wheels that replace line 0 up to the last state: they part when the first one comes there.
        short, long = ("cache", (2, ((0, 1, (0, 0)), (1, 2, (1, 1)), *wheel(5, 2)))), ("cache", lifo(2))
        always = ("cache", (2, ((0, 1, (0, 0)), (1, 2, (1, 1)), (0, 2, (2, 2)))))
        self.assertEqual(difference(short, always), self.first_difference(short, always, None, 9))
        self.assertEqual(len(difference(short, always)), 8)
        self.assertEqual(difference(short, always)[:6], (0, 1, 0, 0, 0, 0))
        self.assertEqual(difference(short, long), self.first_difference(short, long, None, 6))

    def test_pairs_of_the_catalog(self):
        for titles in itertools.product(("lru", "mru", "fifo", "lifo", "clock", "bits", "plru"), repeat=2):
            one, other = [("cache", named(title, 2)) for title in titles]
            self.assertEqual(difference(one, other), self.first_difference(one, other, None, 6))
            self.assertEqual(are_alike(one, other), plain(one[1]) == plain(other[1]))
        self.assertEqual(difference(("cache", lru(2)), ("cache", fifo(2))), (0, 1, 0, 2, 0))
        self.assertEqual(difference(("cache", lru(1)), ("cache", lru(2))), (0, 1, 1))
        self.assertEqual(difference(("cache", lru(3)), ("cache", lru(2))), (0, 1, 2, 0))

    def test_devices_of_other_modes_can_be_alike(self):
        upper = ("plain", LRU, ONE)
        self.assertIs(are_alike(upper, ("cache", LRU)), True)
        self.assertIs(difference(upper, ("cache", LRU)), None)
        self.assertIs(are_alike(("victim", fifo(1), fifo(1)), ("cache", lru(2))), True)
        self.assertIs(are_alike(("victim", fifo(1), fifo(1)), ("cache", fifo(2))), False)
        self.assertIs(are_alike(("inclusive", LRU, ONE), ("cache", ONE)), True)

    def test_with_few_names_never(self):
        one, other, small = ("cache", lru(2)), ("cache", fifo(2)), ("cache", lru(1))
        self.assertIs(difference(one, other, names=1), None)
        self.assertIs(difference(one, other, names=2), None)
        self.assertEqual(difference(one, other, names=3), (0, 1, 0, 2, 0))
        self.assertIs(difference(one, small, names=1), None)
        self.assertEqual(difference(one, small, names=2), (0, 1, 0))
        self.assertIs(are_alike(one, other, names=2), True)
        self.assertIs(are_alike(one, other, names=3), False)
        # With three names lru and fifo of three lines hold them all; with four they part.
        self.assertIs(are_alike(("cache", lru(3)), ("cache", fifo(3)), names=3), True)
        self.assertIs(are_alike(("cache", lru(3)), ("cache", fifo(3)), names=4), False)

    def test_a_name_that_is_gone_may_come_again_when_few_are_allowed(self):
        # With two names at most, only names that neither device holds are new, so both can be asked for ever.
        one = counter(3)
        self.assertIs(difference(one, one, names=1), None)
        for names in (1, 2, 3, 12):
            for device in (("cache", lru(1)), ("cache", THREE)):
                self.assertIs(are_alike(device, device, names=names), True)

    def test_a_device_with_itself(self):
        for device in right_devices():
            if all(len(policy[1]) < 6 for policy in device[1:]):
                if reference.situations(device, device, None, limit=600) is not None:
                    self.assertIs(difference(device, device), None)
                    self.assertIs(are_alike(one=device, other=device), True)

    def test_600_and_601_situations(self):
        for names in (None, 2, 12):
            self.assertIs(difference(*PAIR_600, names=names), None)
            self.assertIs(are_alike(*PAIR_600, names=names), True)
            for function in (difference, are_alike):
                check_refused(self, TooManySituations, {"limit": 600}, function, *PAIR_601, names=names)
        self.assertIs(difference(*PAIR_601, names=1), None)

    def test_too_many_situations_although_there_is_a_difference(self):
        one, other = ("cache", lru(4)), ("cache", mru(4))
        for pair in ((one, other), (other, one), (("cache", lru(1)), one)):
            if reference.situations(*pair, None, limit=600) is None:
                self.assertIsNotNone(self.first_difference(*pair, None, 6))
                for function in (difference, are_alike):
                    check_refused(self, TooManySituations, {"limit": 600}, function, *pair)
        self.assertIsNone(reference.situations(one, other, None, limit=600))


class WrongInputTest(unittest.TestCase):

    def wrong(self):
        policies = odd_values() + [0, nested([], 99), [2, LRU[1]], ("cache", LRU), *list(wrong_policies())[::20]]
        devices = odd_values() + [0, LRU, ["cache", LRU], *list(wrong_devices())[::7]]
        counts = WRONG_COUNTS + [value for value in odd_values() if value is not None]
        told = values_told(InvalidDevice, devices)
        return {
            "policy": values_told(InvalidPolicy, policies), "one": told, "other": told,
            "names": values_told(InvalidCount, counts),
        }

    def test_each_parameter_and_two_at_once(self):
        check_parameters(self, plain, ("policy",), (LRU,), self.wrong())
        right = (("cache", LRU), ("cache", ONE), 2)
        for function in (are_alike, difference):
            check_parameters(self, function, ("one", "other", "names"), right, self.wrong(), only_named=("names",))
            self.assertRaises(TypeError, function, *right)

    def test_other_errors_come_before_too_many_situations(self):
        for function in (are_alike, difference):
            check_refused(self, InvalidCount, {"value": 13}, function, *PAIR_601, names=13)
            check_refused(self, InvalidCount, {"value": True}, function, *PAIR_601, names=True)

    def test_all_numbers_of_names_are_right(self):
        for names in (None, *range(1, 13)):
            self.assertIs(are_alike(("cache", ONE), ("cache", ONE), names=names), True)

    def test_arguments_are_not_modified_and_results_are_the_same_again(self):
        for policy in right_policies():
            if len(policy[1]) < 6:
                before = copy.deepcopy(policy)
                self.assertEqual(plain(policy), plain(policy))
                self.assertEqual(policy, before)
        pair = ("cache", lru(2)), ("victim", ONE, LRU)
        before = copy.deepcopy(pair)
        self.assertEqual(difference(*pair), difference(*pair))
        self.assertEqual(are_alike(*pair), are_alike(*pair))
        self.assertEqual(pair, before)


class ExampleTest(unittest.TestCase):

    def test_examples_of_the_document(self):
        run_example(self, """
>>> from missbounds.catalog import bits, clock, fifo, lru, plru
>>> from missbounds.plains import are_alike, difference, plain
>>> [plain(lru(2)), plain((2, ((0, 0, (0, 0)),))), are_alike(("cache", bits(2)), ("cache", lru(2))), difference(("cache", lru(2)), ("cache", fifo(2)))]
[(2, ((0, 1, (0, 0)), (1, 2, (1, 1)), (0, 3, (3, 2)), (1, 2, (3, 2)))), (1, ((0, 1, (0,)), (0, 1, (1,)))), True, (0, 1, 0, 2, 0)]
""")


if __name__ == "__main__":
    unittest.main()
