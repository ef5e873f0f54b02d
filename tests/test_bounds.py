import copy
import itertools
import random
import unittest
from fractions import Fraction

import reference
from helper import odd_values, run_example
from missbounds.bounds import bound, first_outside, is_never_worse, least_excess
from missbounds.catalog import clock, fifo, lifo, lru, mru, named
from missbounds.errors import InvalidCount, InvalidDevice, InvalidRatio, TooManySituations
from refused import check_parameters, check_refused, values_told
from samples import LEVELS, LRU, ONE, PAIR_600, PAIR_601, random_device, random_policy, wrong_devices

MODES = ("cache",) + LEVELS
FUNCTIONS = (bound, is_never_worse, first_outside)
WRONG_COUNTS = [0, 13, 14, -1, 10 ** 39, -10 ** 39, "1", (1,), [1], {1: 1}, {1}, 600]
# What is no fraction from 0 on: not in lowest terms, below 0, of other kinds.
WRONG_RATIOS = [
    (2, 2), (0, 2), (4, 2), (2, 4), (10 ** 30, 10 ** 30), (6, 9), (-1, 1), (1, -1), (-1, -1), (1, 0), (0, 0), (0, -1),
    (1,), (1, 1, 1), (), [1, 1], (True, 1), (1, True), (False, 1), (0, True), (None, 1), (1, None), ("1", "1"), "1/1",
    ((1,), 1), (1, (1,)), ((1, 1), (1, 1)), 1, 0, 2, {1: 1}, {1}, ((1, 1),), (10 ** 39, 10 ** 38), (0, 10 ** 39), b"11",
]


def fraction(value):
    return Fraction(*value)


def pair_of(value):
    return value.numerator, value.denominator


def excess_by_walks(found, ratio):
    """Return the least excess for a ratio, by the walks of each length through the situations, or None."""
    counts = {next(iter(found)): Fraction(0)}
    best = Fraction(0)
    for _ in range(len(found) + 1):
        later = {}
        for situation, count in counts.items():
            for (hit, other_hit), behind in found[situation]:
                new = count + (not hit) - ratio * (not other_hit)
                if new > later.get(behind, new - 1):
                    later[behind] = new
        greater = max(later.values())
        if _ == len(found) and grows(found, ratio):
            return None
        best = max(best, greater)
        counts = later
    return best


def grows(found, ratio):
    """Return whether the greatest counts still grow when no walk without circles is so long."""
    counts = dict.fromkeys(found, Fraction(0))
    for _ in range(len(found) + 1):
        later = dict(counts)
        for situation, ways in found.items():
            for (hit, other_hit), behind in ways:
                later[situation] = max(later[situation], counts[behind] + (not hit) - ratio * (not other_hit))
        if later == counts:
            return False
        counts = later
    return True


def has_endless_circle(found):
    """Return whether on some circle of situations the first device misses and the other one never does."""
    ways = {
        situation: [(hit, behind) for (hit, other_hit), behind in told if other_hit]
        for situation, told in found.items()
    }
    for situation, told in ways.items():
        for hit, behind in told:
            reached = [] if hit else [behind]
            for place in reached:
                reached += [later for hit, later in ways[place] if later not in reached]
            if situation in reached:
                return True
    return False


def small_pairs(chance, many, **most):
    """Return pairs of devices of all modes with not too many situations, with these."""
    pairs = []
    for mode, other_mode in itertools.product(MODES, repeat=2):
        for _ in range(many):
            one, other = random_device(chance, mode, **most), random_device(chance, other_mode, **most)
            names = chance.choice((None, 1, 2, 3, 4, 12))
            found = reference.situations(one, other, names, limit=100)
            if found is not None and len(found) <= 60:
                pairs.append((one, other, names, found))
    return pairs


class BoundTest(unittest.TestCase):

    def test_pairs_of_the_document(self):
        one, other, small = ("cache", lru(2)), ("cache", fifo(2)), ("cache", lru(1))
        self.assertEqual(bound(one, other), ((2, 1), (0, 1)))
        self.assertEqual(bound(other, one), ((2, 1), (0, 1)))
        self.assertEqual(bound(one, small), ((1, 1), (0, 1)))
        self.assertIsNone(bound(small, one))
        self.assertEqual(bound(small, one, names=1), ((0, 1), (1, 1)))
        self.assertEqual(bound(one=one, other=other, names=None), ((2, 1), (0, 1)))

    def test_a_device_with_itself(self):
        for device in [("cache", named(title, 2)) for title in ("lru", "mru", "fifo", "lifo")] + [("victim", ONE, ONE)]:
            self.assertEqual(bound(device, device), ((1, 1), (0, 1)))
            self.assertEqual(least_excess(device, device, (1, 1)), (0, 1))
            self.assertEqual(least_excess(device, device, (10 ** 39, 1)), (0, 1))
            self.assertEqual(bound(device, device, names=1), ((0, 1), (1, 1)))
            self.assertIs(is_never_worse(device, device), True)
            self.assertIsNone(first_outside(device, device))

    def test_by_hand(self):
        # One line that keeps its first name for ever, besides one line that is replaced always: no line is kept here.
        keep = ("cache", (2, ((0, 1, (0, 0)), (1, 1, (1, 1)))))
        last = ("cache", ONE)
        # Requests for a alone are hits of `keep`, so are repeated requests; `last` misses in a b a b each time.
        self.assertIsNone(bound(last, keep))
        self.assertEqual(bound(keep, last), ((1, 1), (0, 1)))
        # Of three names in turn lru misses all, and mru half of them. Of b and c in turn, mru misses all behind a.
        self.assertEqual(bound(("cache", lru(2)), ("cache", mru(2))), ((2, 1), (0, 1)))
        self.assertEqual(bound(("cache", mru(2)), ("cache", lru(2))), None)
        self.assertEqual(bound(("cache", lru(2)), ("cache", mru(2)), names=2), ((0, 1), (2, 1)))
        self.assertEqual(bound(("cache", fifo(3)), ("cache", lru(3)), names=4), ((3, 1), (0, 1)))

    def test_the_excess_belongs_to_the_ratio(self):
        # The second miss replaces the first name, although a line is empty; from then on this is lru.
        late = (2, ((0, 1, (0, 0)), (0, 2, (1, 1)), (1, 3, (2, 2)), (0, 4, (4, 3)), (1, 3, (4, 3))))
        self.assertEqual(bound(("cache", late), ("cache", lru(2))), ((1, 1), (1, 1)))
        self.assertEqual(bound(("cache", late), ("cache", lru(1))), ((1, 1), (0, 1)))
        self.assertEqual(least_excess(("cache", late), ("cache", lru(2)), (3, 2)), (0, 1))
        self.assertEqual(least_excess(("cache", late), ("cache", lru(2)), (5, 4)), (1, 2))
        self.assertIs(is_never_worse(("cache", late), ("cache", lru(2))), False)

    def test_an_excess_that_is_no_integer(self):
        one = ("cache", (2, ((1, 1, (0, 1)), (0, 0, (1, 1)))))
        other = ("cache", (2, ((1, 1, (0, 0)), (0, 1, (0, 1)))))
        self.assertEqual(bound(one, other), ((11, 7), (1, 7)))
        self.check_bound(one, other, None, reference.situations(one, other), ((11, 7), (1, 7)))
        one = ("cache", (2, ((0, 1, (1, 0)), (1, 0, (1, 1)))))
        other = ("cache", (2, ((0, 1, (0, 0)), (1, 2, (1, 0)), (1, 0, (0, 2)))))
        self.assertEqual(bound(one, other, names=3), ((3, 2), (1, 2)))
        self.check_bound(one, other, 3, reference.situations(one, other, 3), ((3, 2), (1, 2)))

    def test_ratios_of_the_catalog(self):
        # With k lines against h of the best policies for the history, lru and fifo have the ratio k / (k - h + 1).
        for title in ("lru", "fifo", "clock"):
            self.assertEqual(bound(("cache", named(title, 3)), ("cache", mru(2))), ((3, 2), (0, 1)))
            self.assertEqual(bound(("cache", named(title, 3)), ("cache", mru(3))), ((3, 1), (0, 1)))
        told = {}
        for title, other_title in itertools.product(("lru", "mru", "fifo", "lifo", "clock", "bits"), repeat=2):
            one, other = ("cache", named(title, 3)), ("cache", named(other_title, 2))
            told[title, other_title] = bound(one, other)
            found = reference.situations(one, other)
            if len(found) < 70:
                self.check_bound(one, other, None, found, told[title, other_title])
        self.assertEqual(told["fifo", "lifo"], ((4, 3), (0, 1)))
        self.assertEqual(told["bits", "lifo"], ((7, 5), (0, 1)))
        self.assertEqual(told["bits", "mru"], ((2, 1), (0, 1)))
        self.assertIsNone(told["mru", "lru"])
        self.assertEqual(bound(("cache", clock(3)), ("cache", lifo(3))), ((7, 3), (0, 1)))

    def test_against_walks(self):
        chance = random.Random(31)
        kinds = set()
        for one, other, names, found in small_pairs(chance, 14, most_lines=2, most_states=3):
            told = bound(one, other, names=names)
            self.check_bound(one, other, names, found, told)
            kinds.add(told)
        self.assertIn(None, kinds)
        self.assertGreater(len({ratio for ratio, excess in kinds - {None}}), 2)
        self.assertGreater(len({excess for ratio, excess in kinds - {None}}), 2)

    def check_bound(self, one, other, names, found, told):
        """Check that the ratio has an excess, the least one, and that no lesser ratio has one."""
        many = len(found)
        self.assertEqual(told is None, has_endless_circle(found))
        if told is None:
            self.assertIsNone(excess_by_walks(found, Fraction(many + 1)))
            self.assertIsNone(least_excess(one, other, (many + 1, 1), names=names))
            return
        ratio, excess = fraction(told[0]), fraction(told[1])
        self.assertEqual((pair_of(ratio), pair_of(excess)), told)
        self.assertEqual(excess_by_walks(found, ratio), excess)
        self.assertEqual(least_excess(one, other, told[0], names=names), told[1])
        if ratio > 0:
            # Circles have at most as many steps as there are situations, so no ratio of theirs is between these.
            less = ratio - Fraction(1, 2 * many * many)
            self.assertIsNone(excess_by_walks(found, less))
            self.assertIsNone(least_excess(one, other, pair_of(less), names=names))
        more = ratio + Fraction(1, 7)
        self.assertEqual(least_excess(one, other, pair_of(more), names=names), pair_of(excess_by_walks(found, more)))

    def test_no_excess_is_less_than_for_a_greater_ratio(self):
        one, other = ("cache", fifo(2)), ("cache", lru(2))
        found = [fraction(least_excess(one, other, (top, 4))) for top in (9, 11, 13, 19, 401)]
        self.assertEqual(found, sorted(found, reverse=True))
        self.assertEqual(least_excess(("cache", lru(1)), ("cache", lru(2)), (1, 2), names=1), (1, 2))
        self.assertEqual(least_excess(("cache", lru(1)), ("cache", lru(2)), (1, 3), names=1), (2, 3))
        self.assertEqual(least_excess(("cache", lru(1)), ("cache", lru(2)), (2, 1), names=1), (0, 1))


class LeastExcessTest(unittest.TestCase):

    def test_by_hand(self):
        one, other = ("cache", lru(2)), ("cache", fifo(2))
        self.assertIsNone(least_excess(one, other, (1, 1)))
        self.assertIsNone(least_excess(one, other, (0, 1)))
        self.assertIsNone(least_excess(one, other, (199, 100)))
        self.assertIsNone(least_excess(one, other, (2 * 10 ** 38 - 1, 10 ** 38)))
        self.assertEqual(least_excess(one, other, (2, 1)), (0, 1))
        self.assertEqual(least_excess(one, other, (10 ** 39, 1)), (0, 1))
        self.assertEqual(least_excess(one=one, other=other, ratio=(5, 2), names=None), (0, 1))
        self.assertEqual(least_excess(one, other, (0, 1), names=2), (2, 1))
        self.assertEqual(least_excess(one, other, (1, 2), names=2), (1, 1))
        self.assertEqual(least_excess(one, other, (0, 1), names=1), (1, 1))

    def test_fractions_with_great_numbers(self):
        one, small = ("cache", lru(2)), ("cache", lru(1))
        great = 10 ** 38
        # Two names that come for the first time: two misses of both devices, and then no more of the first one.
        self.assertEqual(least_excess(one, small, (1, great), names=2), (2 * (great - 1) // 2, great // 2))
        self.assertEqual(least_excess(one, small, (great - 1, great), names=2), (1, great // 2))

    def test_against_walks(self):
        chance = random.Random(32)
        ratios = [(0, 1), (1, 3), (1, 2), (2, 3), (1, 1), (3, 2), (2, 1), (7, 1), (100, 7)]
        for one, other, names, found in small_pairs(chance, 4, most_lines=2, most_states=2):
            for ratio in ratios:
                expected = excess_by_walks(found, fraction(ratio))
                told = least_excess(one, other, ratio, names=names)
                self.assertEqual(told, None if expected is None else pair_of(expected))
                if ratio == (1, 1):
                    self.assertIs(is_never_worse(one, other, names=names), expected == 0)

    def test_against_all_histories_of_a_few_requests(self):
        chance = random.Random(33)
        for one, other, names, found in small_pairs(chance, 3, most_lines=2, most_states=3):
            told = bound(one, other, names=names)
            never_worse = is_never_worse(one, other, names=names)
            for history in itertools.product("abcd"[:names or 4], repeat=6):
                misses, more = reference.misses(one, history), reference.misses(other, history)
                if told is not None:
                    self.assertLessEqual(misses, fraction(told[0]) * more + fraction(told[1]))
                if never_worse:
                    self.assertLessEqual(misses, more)

    def test_the_excess_is_reached_in_a_history(self):
        # All histories of up to seven requests for few names: the least excess is the greatest count of one.
        for titles in itertools.product(("lru", "mru", "fifo", "lifo"), repeat=2):
            one, other = [("cache", named(title, 2)) for title in titles]
            for ratio in ((1, 1), (2, 1), (1, 2)):
                told = least_excess(one, other, ratio, names=2)
                counts = [
                    reference.misses(one, history) - fraction(ratio) * reference.misses(other, history)
                    for length in range(8) for history in itertools.product("ab", repeat=length)
                ]
                self.assertEqual(told, pair_of(max(counts)))


class NeverWorseTest(unittest.TestCase):

    def test_by_hand(self):
        one, other, small = ("cache", lru(2)), ("cache", fifo(2)), ("cache", lru(1))
        self.assertIs(is_never_worse(one, small), True)
        self.assertIs(is_never_worse(small, one), False)
        self.assertIs(is_never_worse(one, other), False)
        self.assertIs(is_never_worse(other, one), False)
        self.assertIs(is_never_worse(one=other, other=one, names=2), True)
        self.assertIs(is_never_worse(small, one, names=1), True)
        self.assertIs(is_never_worse(small, one, names=2), False)
        self.assertIs(is_never_worse(("cache", lru(3)), ("cache", lru(2))), True)
        self.assertIs(is_never_worse(("plain", ONE, lru(2)), small), True)
        self.assertIs(is_never_worse(("cache", fifo(4)), ("cache", fifo(3)), names=3), True)
        self.assertIs(is_never_worse(("cache", fifo(3)), ("cache", fifo(2))), True)

    def test_one_miss_more_is_worse(self):
        # With one name at most: this one empties its upper line when the name below is replaced, and misses once more.
        one, other = ("cache", lifo(2)), ("cache", clock(2))
        for names in (1, 2, 3):
            found = reference.situations(one, other, names)
            expected = excess_by_walks(found, Fraction(1))
            self.assertIs(is_never_worse(one, other, names=names), expected == 0)


class FirstOutsideTest(unittest.TestCase):

    def searched(self, one, other, names, length):
        """Return the least of the shortest steps up to a length after which the first device is outside."""
        for steps, pair, told in reference.each_steps(one, other, length, names):
            if set(pair.one.place()[1]) - {None} - set(pair.other.place()[1]):
                return steps
        return None

    def test_by_hand(self):
        one, other, small = ("cache", lru(2)), ("cache", fifo(2)), ("cache", lru(1))
        self.assertIsNone(first_outside(small, one))
        self.assertEqual(first_outside(one, small), (0, 1))
        self.assertEqual(first_outside(one, other), (0, 1, 0, 2))
        self.assertEqual(first_outside(one=other, other=one), (0, 1, 0, 2))
        self.assertIsNone(first_outside(one, other, names=2))
        self.assertEqual(first_outside(one, other, names=3), (0, 1, 0, 2))
        self.assertIsNone(first_outside(one, small, names=1))
        self.assertIsNone(first_outside(("inclusive", ONE, LRU), ("cache", LRU)))
        self.assertEqual(first_outside(("victim", ONE, ONE), ("cache", ONE)), (0, 1))

    def test_against_a_search_over_all_short_steps(self):
        chance = random.Random(34)
        lengths = set()
        for one, other, names, found in small_pairs(chance, 8, most_lines=3, most_states=3):
            told = first_outside(one, other, names=names)
            searched = self.searched(one, other, names, 5)
            if searched is not None or told is None or len(told) <= 5:
                self.assertEqual(told, searched)
            if told is None:
                for states, contents in found:
                    lines = sum(policy[0] for policy in one[1:])
                    self.assertEqual(set(contents[:lines]) - {None} - set(contents[lines:]), set())
            else:
                lengths.add(len(told))
        self.assertGreater(len(lengths), 2)

    def test_both_levels_count(self):
        chance = random.Random(35)
        for mode in LEVELS:
            for _ in range(6):
                one = (mode, ONE, random_policy(chance, 2, 2))
                other = ("cache", random_policy(chance, 2, 2))
                self.assertEqual(first_outside(one, other, names=3), self.searched(one, other, 3, 6))
                self.assertEqual(first_outside(other, one, names=3), self.searched(other, one, 3, 6))


class SituationsTest(unittest.TestCase):

    def test_600_situations(self):
        self.assertIsNone(first_outside(*PAIR_600))
        self.assertEqual(bound(*PAIR_600), ((1, 1), (0, 1)))
        self.assertEqual(least_excess(*PAIR_600, (1, 1)), (0, 1))
        self.assertIsNone(least_excess(*PAIR_600, (0, 1)))
        self.assertIs(is_never_worse(*PAIR_600), True)

    def test_601_situations(self):
        for names in (None, 2, 12):
            for function in FUNCTIONS:
                check_refused(self, TooManySituations, {"limit": 600}, function, *PAIR_601, names=names)
            check_refused(self, TooManySituations, {"limit": 600}, least_excess, *PAIR_601, (0, 1), names=names)
        self.assertEqual(bound(*PAIR_601, names=1), ((0, 1), (1, 1)))

    def test_other_errors_come_before_too_many_situations(self):
        for function in FUNCTIONS:
            check_refused(self, InvalidCount, {"value": 13}, function, *PAIR_601, names=13)
        wrong = (2, 2)
        check_refused(self, InvalidRatio, {"value": wrong}, least_excess, *PAIR_601, wrong)
        check_refused(self, InvalidCount, {"value": False}, least_excess, *PAIR_601, (1, 1), names=False)


class WrongInputTest(unittest.TestCase):

    def test_each_parameter_and_two_at_once(self):
        devices = values_told(InvalidDevice, odd_values() + [0, LRU, ["cache", LRU], *list(wrong_devices())[::9]])
        counts = WRONG_COUNTS + [value for value in odd_values() if value is not None]
        wrong = {
            "one": devices, "other": devices, "ratio": values_told(InvalidRatio, WRONG_RATIOS + odd_values()),
            "names": values_told(InvalidCount, counts),
        }
        right = ("cache", LRU), ("cache", ONE)
        for function in FUNCTIONS:
            parameters = ("one", "other", "names")
            check_parameters(self, function, parameters, (*right, 2), wrong, only_named=("names",))
            self.assertRaises(TypeError, function, *right, 2)
        parameters = ("one", "other", "ratio", "names")
        check_parameters(self, least_excess, parameters, (*right, (3, 2), 2), wrong, only_named=("names",))

    def test_all_numbers_of_names_are_right(self):
        one, other = ("cache", lru(2)), ("cache", fifo(2))
        for names in (None, *range(1, 13)):
            found = reference.situations(one, other, names)
            told = bound(one, other, names=names)
            self.assertEqual(fraction(told[1]), excess_by_walks(found, fraction(told[0])))
            self.assertEqual(told, ((0, 1), (names, 1)) if names in (1, 2) else ((2, 1), (0, 1)))

    def test_arguments_are_not_modified_and_results_are_the_same_again(self):
        pair = ("victim", ONE, ONE), ("cache", lru(2))
        before = copy.deepcopy(pair)
        for function in FUNCTIONS:
            self.assertEqual(function(*pair), function(*pair))
        self.assertEqual(least_excess(*pair, (2, 1)), least_excess(*pair, (2, 1)))
        self.assertEqual(pair, before)


class ExampleTest(unittest.TestCase):

    def test_examples_of_the_document(self):
        run_example(self, """
>>> from missbounds.bounds import bound, first_outside, is_never_worse, least_excess
>>> from missbounds.catalog import fifo, lru
>>> one, other, small = ("cache", lru(2)), ("cache", fifo(2)), ("cache", lru(1))
>>> first = [bound(one, other), bound(other, one), bound(one, small), bound(small, one), least_excess(one, other, (1, 1))]
>>> first + [bound(small, one, names=1), is_never_worse(one, small), first_outside(small, one), first_outside(one, other)]
[((2, 1), (0, 1)), ((2, 1), (0, 1)), ((1, 1), (0, 1)), None, None, ((0, 1), (1, 1)), True, None, (0, 1, 0, 2)]
""")


if __name__ == "__main__":
    unittest.main()
