import copy
import itertools
import random
import unittest

import keepings
import reference
from helper import Prickly, nested, odd_values, run_example
from missbounds.catalog import named
from missbounds.errors import InvalidHistory, InvalidLines, TooManyRequests
from missbounds.optimum import best_keeping, best_weights, is_keeping, least_misses
from refused import check_parameters, check_refused, indexes_told, values_told
from samples import random_device, random_history, wrong_histories

FUNCTIONS = (least_misses, best_keeping, best_weights)
TITLES = ("lru", "mru", "fifo", "lifo", "clock", "bits")


class KeepingTest(unittest.TestCase):

    def test_all_truths_of_short_histories(self):
        for length in range(7):
            for names in keepings.each_shape(length, 4):
                for lines in (1, 2, 3, 4):
                    for kept in itertools.product((False, True), repeat=length):
                        self.assertIs(is_keeping(names, lines, kept), keepings.is_allowed(names, lines, kept))

    def test_truths_of_longer_histories(self):
        chance = random.Random(5)
        found = []
        for _ in range(400):
            names = random_history(chance, "abcdef", chance.randint(7, 14))
            lines = chance.randint(1, 4)
            kept = tuple([keepings.next_one(names, at) is not None and chance.random() < 0.4 for at in range(len(names))])
            found.append(keepings.is_allowed(names, lines, kept))
            self.assertIs(is_keeping(names=names, lines=lines, value=kept), found[-1])
        self.assertGreater(found.count(True), 50)
        self.assertGreater(found.count(False), 50)

    def test_by_hand(self):
        names = ("a", "b", "c", "a", "b", "c")
        self.assertIs(is_keeping(names, 1, (False,) * 6), True)
        self.assertIs(is_keeping(names, 1, (True,) + (False,) * 5), False)
        self.assertIs(is_keeping(names, 2, (True,) + (False,) * 5), True)
        self.assertIs(is_keeping(names, 2, (True, True) + (False,) * 4), False)
        self.assertIs(is_keeping(names, 3, (True, True, True) + (False,) * 3), True)
        # Behind the request for a, c is kept as b was before it.
        self.assertIs(is_keeping(("b", "a", "b", "c", "a", "c"), 2, (True, False, False, True, False, False)), True)
        # The name that is requested does not count among the others.
        self.assertIs(is_keeping(("a", "a", "a"), 1, (True, True, False)), True)
        self.assertIs(is_keeping(("a", "b", "a"), 1, (True, False, False)), False)

    def test_true_at_a_last_request(self):
        for names in (("a",), ("a", "a"), ("a", "b", "a"), ("a", "b")):
            for lines in (1, 2, 3, 4):
                self.assertIs(is_keeping(names, lines, (False,) * (len(names) - 1) + (True,)), False)
        self.assertIs(is_keeping(("a", "b", "a"), 2, (False, True, False)), False)

    def test_lengths_and_kinds(self):
        names = ("a", "a", "b")
        right = (True, False, False)
        self.assertIs(is_keeping(names, 2, right), True)
        for wrong in (right[:2], right[1:], right + (False,), (), right * 2, list(right), set(right), {0: True}):
            self.assertIs(is_keeping(names, 2, wrong), False)
        for wrong in ((1, 0, 0), (True, False, 0), (1, False, False), (True, None, False), (True, (), False), "TFF"):
            self.assertIs(is_keeping(names, 2, wrong), False)
        for at in range(3):
            for odd in odd_values():
                if not isinstance(odd, bool):
                    self.assertIs(is_keeping(names, 2, right[:at] + (odd,) + right[at + 1:]), False)

    def test_any_value(self):
        for odd in odd_values() + [nested((), 99), [[]], {1: []}, Prickly()]:
            self.assertIs(is_keeping(("a", "a"), 2, odd), False)
            self.assertIs(is_keeping((), 1, odd), isinstance(odd, tuple) and len(odd) == 0)

    def test_200_requests(self):
        names = ("a", "b", "c", "d") * 50
        self.assertIs(is_keeping(names, 4, (True,) * 196 + (False,) * 4), True)
        self.assertIs(is_keeping(names, 4, (True,) * 197 + (False,) * 3), False)
        self.assertIs(is_keeping(names, 3, (True,) * 196 + (False,) * 4), False)
        self.assertIs(is_keeping(names, 4, (True,) * 195), False)


class LeastTest(unittest.TestCase):

    def check(self, names, lines):
        """Check the keeping and the weights against each other, and return the least misses."""
        many = least_misses(names, lines)
        kept = best_keeping(names, lines)
        weights = best_weights(names, lines)
        self.assertIs(many.__class__, int)
        self.assertIs(kept.__class__, tuple)
        self.assertEqual([mark.__class__ for mark in kept], [bool] * len(names))
        self.assertTrue(keepings.is_allowed(names, lines, kept))
        self.assertEqual(len(names) - sum(kept), many)
        self.assertIs(weights.__class__, tuple)
        self.assertEqual([weight.__class__ for weight in weights], [int] * len(names))
        self.assertTrue(all(weight >= 0 for weight in weights))
        self.assertEqual(keepings.shown_by(names, lines, weights), sum(kept))
        self.assertIs(is_keeping(names, lines, kept), True)
        return many

    def test_against_all_keepings(self):
        for length in range(7):
            for names in keepings.each_shape(length, 4):
                for lines in (1, 2, 3, 4):
                    self.assertEqual(self.check(names, lines), keepings.fewest(names, lines))

    def test_against_all_keepings_of_longer_histories(self):
        chance = random.Random(8)
        shapes = chance.sample(list(keepings.each_shape(7, 7)), 80) + chance.sample(list(keepings.each_shape(8, 8)), 80)
        for names in shapes:
            for lines in (1, 2, 3, 4):
                self.assertEqual(self.check(names, lines), keepings.fewest(names, lines))

    def test_no_device_has_fewer(self):
        chance = random.Random(17)
        reached = 0
        for _ in range(120):
            names = random_history(chance, "abcdef", chance.randint(0, 40))
            lines = chance.randint(1, 4)
            least = self.check(names, lines)
            devices = [("cache", named(title, lines)) for title in TITLES]
            found = [reference.misses(device, names) for device in devices]
            self.assertGreaterEqual(min(found), least)
            reached += min(found) == least
            for mode in ("plain", "inclusive", "victim"):
                device = random_device(chance, mode, 2, 3)
                held = sum(policy[0] for policy in device[1:])
                self.assertGreaterEqual(reference.misses(device, names), least_misses(names, held))
        self.assertGreater(reached, 20)

    def test_long_histories(self):
        chance = random.Random(200)
        for letters in ("a", "ab", "abc", "abcdefgh", "abcdefghijklmnopqrstuvwxyz"):
            for length in (50, 199, 200):
                for lines in (1, 2, 3, 4):
                    self.check(random_history(chance, letters, length), lines)

    def test_by_hand(self):
        for lines in (1, 2, 3, 4):
            self.assertEqual((least_misses((), lines), best_keeping((), lines), best_weights((), lines)), (0, (), ()))
            self.assertEqual((least_misses(("a",), lines), best_keeping(("a",), lines)), (1, (False,)))
            self.assertEqual(self.check(("same",) * 200, lines), 1)
            self.assertEqual(best_keeping(("same",) * 200, lines), (True,) * 199 + (False,))
            self.assertEqual(self.check(tuple("abcdefghij"), lines), 10)
        names = ("a", "b", "c", "a", "b", "c")
        self.assertEqual([self.check(names, lines) for lines in (1, 2, 3, 4)], [6, 4, 3, 3])
        self.assertEqual([self.check(("a", "b") * 100, lines) for lines in (1, 2, 3, 4)], [200, 2, 2, 2])
        self.assertEqual([self.check(("a", "b", "c", "d", "e") * 40, lines) for lines in (1, 4)], [200, 53])
        # Names count as a whole, and not by their first letter.
        self.assertEqual(self.check(("ab", "a", "ab", "abc", "a"), 2), 3)
        self.assertEqual(self.check(("zzzzzz", "a", "zzzzzz"), 2), 2)

    def test_the_same_again_and_nothing_modified(self):
        names = ("a", "b", "c", "a", "d", "b", "c", "a")
        before = copy.deepcopy(names)
        for function in FUNCTIONS:
            for lines in (1, 2, 3, 4):
                self.assertEqual(function(names, lines), function(tuple(list(names)), lines))
                self.assertEqual(function(names=names, lines=lines), function(names, lines))
        self.assertEqual(names, before)

    def test_results_may_be_passed(self):
        names = ("a", "b", "c", "a", "b", "c") * 33
        for lines in (1, 2, 3, 4):
            self.assertIs(is_keeping(names, lines, best_keeping(names, lines)), True)
            self.assertIs(is_keeping(names, lines, best_weights(names, lines)), False)


class WrongTest(unittest.TestCase):

    def wrong(self):
        values = [value for value in odd_values()] + [0, 5, 6, 10 ** 39, "2", (2,), [2], nested((), 99)]
        return {
            "names": indexes_told(InvalidHistory, [(["a"], None), *wrong_histories()]),
            "lines": values_told(InvalidLines, values),
        }

    def test_each_parameter(self):
        for function in FUNCTIONS:
            check_parameters(self, function, ("names", "lines"), (("a", "b", "a"), 2), self.wrong())
        right = (("a", "b", "a"), 2, (True, False, False))
        check_parameters(self, is_keeping, ("names", "lines", "value"), right, self.wrong())

    def test_errors_come_before_what_is_wrong_with_the_value(self):
        for odd in odd_values():
            check_refused(self, InvalidLines, {"value": 0}, is_keeping, ("a",), 0, odd)
            check_refused(self, InvalidHistory, {"index": 1}, is_keeping, ("a", 1), 0, odd)
            check_refused(self, TooManyRequests, {"limit": 200}, is_keeping, ("a",) * 201, 1, odd)

    def test_too_many_requests(self):
        for function in FUNCTIONS:
            for many in (201, 202, 1999, 2000):
                for lines in (1, 2, 3, 4):
                    check_refused(self, TooManyRequests, {"limit": 200}, function, ("a",) * many, lines)
            # After all others.
            check_refused(self, InvalidLines, {"value": 5}, function, ("a",) * 201, 5)
            check_refused(self, InvalidHistory, {"index": 200}, function, ("a",) * 200 + ("A",), 1)
            check_refused(self, InvalidHistory, {"index": None}, function, ("a",) * 2001, 1)
            function(("a",) * 200, 1)

    def test_example(self):
        run_example(self, '''
            >>> from missbounds.optimum import best_weights, is_keeping, least_misses
            >>> history = ("a", "b", "c", "a", "b", "c")
            >>> kept = (True, False, True, False, False, False)
            >>> [least_misses(history, 1), least_misses(history, 2), least_misses(history, 3), is_keeping(history, 2, kept), is_keeping(history, 2, (True, True) + kept[2:]), len(best_weights(history, 2))]
            [6, 4, 3, True, False, 6]
        ''')


if __name__ == "__main__":
    unittest.main()
