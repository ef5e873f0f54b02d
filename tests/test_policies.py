import copy
import unittest

from helper import at, nested, odd_values, put, run_example, spots
from missbounds.errors import InvalidDevice
from missbounds.policies import count_lines, is_device, is_policy

LRU = (2, ((0, 1, (1, 0)), (1, 0, (1, 0))))
ONE = (1, ((0, 0, (0,)),))
THREE = (3, ((2, 1, (0, 1, 0)), (0, 0, (1, 1, 1))))
FOUR = (4, ((3, 2, (0, 1, 2, 0)), (1, 0, (2, 2, 1, 0)), (0, 1, (1, 0, 0, 2))))
LEVELS = ("plain", "inclusive", "victim")


def policy_of(lines, states):
    """Return a policy with so many lines and states, in which each line and state occurs."""
    rows = [
        (state % lines, (state + 1) % states, tuple((state + line) % states for line in range(lines)))
        for state in range(states)
    ]
    return lines, tuple(rows)


def right_policies():
    """Return policies of all numbers of lines, with few and with many states."""
    made = [policy_of(lines, states) for lines in (1, 2, 3, 4) for states in (1, 2, 5, 63, 64)]
    return made + [LRU, ONE, THREE, FOUR]


def right_devices():
    """Return devices of each mode, with levels of equal and of different kinds."""
    pairs = [(LRU, LRU), (ONE, FOUR), (FOUR, ONE), (THREE, LRU), (policy_of(4, 64), policy_of(1, 64))]
    devices = [("cache", policy) for policy in right_policies()]
    return devices + [(mode, upper, lower) for mode in LEVELS for upper, lower in pairs]


def small_devices():
    """Return a device of each mode, small enough to be changed at each place."""
    return [("cache", THREE), ("plain", LRU, ONE), ("inclusive", ONE, LRU), ("victim", LRU, THREE)]


def changed_anywhere(whole):
    """Yield what nested tuples become if one value at any depth is replaced by one of another kind.

    The strings are left out, and what is not valid because of its size is told elsewhere.
    """
    for path in spots(whole):
        inner = at(whole, path)
        for odd in odd_values():
            if not isinstance(inner, str) or not isinstance(odd, str):
                yield put(whole, path, odd)
        if isinstance(inner, tuple):
            yield put(whole, path, list(inner))
            yield put(whole, path, dict(enumerate(inner)))
            yield put(whole, path, (inner,))
            yield put(whole, path, inner[::-1] + (0,))
            yield put(whole, path, (0,) + inner)
        else:
            yield put(whole, path, (inner,))
            yield put(whole, path, [inner])
            yield put(whole, path, {inner: inner})
            yield put(whole, path, str(inner) + "0")


def wrong_rows(lines, states):
    """Yield what is no row of a policy with so many lines and states, each wrong in one place."""
    hits = (states - 1,) * lines
    for victim in (-1, lines, lines + 1, 10 ** 39, True, False, None, "0", (0,)):
        yield victim, 0, hits
    for state in (-1, states, states + 1, 64, 10 ** 39, True, False, None, "0", (0,)):
        yield 0, state, hits
        for line in range(lines):
            yield 0, 0, put(hits, (line,), state)
    for wrong in (hits[1:], hits + (0,), (), list(hits), 0, None, "0" * lines, dict(enumerate(hits)), set(hits)):
        yield 0, 0, wrong
    yield 0, 0
    yield 0, 0, hits, 0
    yield 0, hits, 0
    yield hits, 0, 0
    yield 0, *hits
    yield [0, 0, hits]
    yield ()


def wrong_policies():
    """Yield what is no policy, because of numbers, lengths or kinds."""
    for lines in (1, 2, 3, 4):
        for states in (1, 2, 64):
            rows = policy_of(lines, states)[1]
            for other in {-1, 0, 1, 2, 3, 4, 5, 64, 10 ** 39} - {lines}:
                yield other, rows
            for wrong in wrong_rows(lines, states):
                yield lines, rows[:-1] + (wrong,)
                yield lines, (wrong,) + rows[1:]
        yield lines, ()
        yield policy_of(lines, 65)
        yield lines, ((0, 0, (0,) * lines),) * 65
        yield lines, policy_of(lines, 2)[1][:1]
        yield lines, policy_of(lines, 64)[1][:63]
        yield policy_of(lines, 2)[::-1]
        yield policy_of(lines, 2) + (0,)
        yield policy_of(lines, 2)[:1]
        yield policy_of(lines, 2)[1]
        yield lines, policy_of(lines, 2)[1][0]
    yield from ((0, ((0, 0, ()),)), (5, ((0, 0, (0,) * 5),)), (5, ((4, 0, (0,) * 5),)), (-1, ((0, 0, ()),)))


def wrong_devices():
    """Yield what is no device, because of the mode or of what stands behind it."""
    words = ("", "Cache", "CACHE", " cache", "cache ", "cache\n", "plain\n", "Plain", "exclusive", "none", "lru")
    for mode in words + (None, True, False, 0, 1, (), ("cache",), ["cache"], {}, {"cache"}, b"cache", b"plain"):
        yield mode, LRU
        yield mode, LRU, LRU
    for mode in ("cache",) + LEVELS:
        yield (mode,)
        yield [mode, LRU]
        yield [mode, LRU, LRU]
        yield LRU, mode
        yield LRU, LRU, mode
        yield LRU, mode, LRU
        yield mode, LRU, LRU, LRU
        yield mode, (LRU, LRU)
        yield mode, *LRU
        yield mode, (mode, LRU)
        yield mode, ("cache", LRU), ("cache", LRU)
        yield {mode: LRU}
    yield "cache", LRU, LRU
    for mode in LEVELS:
        yield mode, LRU
        yield mode, LRU, None
        yield mode, None, LRU
    yield from (LRU, (LRU,), (LRU, LRU), (LRU, LRU, LRU), "cache", ())


class PoliciesTest(unittest.TestCase):

    def check_no_policy(self, value):
        """Check that a value is no policy, and that no device has it as a level."""
        self.assertIs(is_policy(value), False)
        self.assertIs(is_device(("cache", value)), False)

    def test_policies_of_all_sizes(self):
        for policy in right_policies():
            self.assertIs(is_policy(policy), True)
            self.assertIs(is_policy(value=policy), True)
            self.assertIs(is_device(policy), False)

    def test_wrong_policies(self):
        for value in wrong_policies():
            with self.subTest(value=repr(value)[:200]):
                self.check_no_policy(value)

    def test_a_policy_that_is_changed_at_any_depth(self):
        for policy in (ONE, LRU, THREE, FOUR):
            for value in changed_anywhere(policy):
                with self.subTest(value=repr(value)):
                    self.check_no_policy(value)

    def test_values_that_are_no_policies(self):
        for value in odd_values() + [0, 7, nested((), 100), nested([], 99), nested(LRU, 98), [2, LRU[1]], {2: LRU[1]}]:
            with self.subTest(value=repr(value)):
                self.check_no_policy(value)

    def test_all_small_policies_against_the_words_of_the_document(self):
        numbers = (-1, 0, 1, 2)
        found = [
            (victim, after, hit)
            for victim in numbers for after in numbers for hit in numbers
            if is_policy((1, ((0, 1, (0,)), (victim, after, (hit,)))))
        ]
        self.assertEqual(found, [(0, after, hit) for after in (0, 1) for hit in (0, 1)])


class DevicesTest(unittest.TestCase):

    def test_devices_of_all_modes(self):
        for device in right_devices():
            self.assertIs(is_device(device), True)
            self.assertIs(is_device(value=device), True)
            self.assertIs(is_policy(device), False)

    def test_wrong_devices(self):
        for value in wrong_devices():
            with self.subTest(value=repr(value)):
                self.assertIs(is_device(value), False)

    def test_a_device_with_a_wrong_policy_in_a_level(self):
        for policy in wrong_policies():
            with self.subTest(policy=repr(policy)[:200]):
                for mode in LEVELS:
                    self.assertIs(is_device((mode, policy, LRU)), False)
                    self.assertIs(is_device((mode, LRU, policy)), False)

    def test_a_device_that_is_changed_at_any_depth(self):
        for device in small_devices():
            for value in changed_anywhere(device):
                with self.subTest(value=repr(value)):
                    self.assertIs(is_device(value), False)

    def test_values_that_are_no_devices(self):
        for value in odd_values() + [0, 7, nested((), 100), nested([], 99), {"cache": LRU}, ["cache", LRU]]:
            with self.subTest(value=repr(value)):
                self.assertIs(is_device(value), False)


class CountLinesTest(unittest.TestCase):

    def check_refused(self, value):
        """Check that the error has the very value, given by position and by name."""
        with self.assertRaises(InvalidDevice) as context:
            count_lines(value)
        self.assertIs(context.exception.value, value)
        with self.assertRaises(InvalidDevice) as context:
            count_lines(device=value)
        self.assertIs(context.exception.value, value)

    def test_lines_of_a_cache(self):
        for lines in (1, 2, 3, 4):
            for states in (1, 3, 64):
                self.assertEqual(count_lines(("cache", policy_of(lines, states))), lines)
                self.assertEqual(count_lines(device=("cache", policy_of(lines, states))), lines)

    def test_lines_of_both_levels(self):
        for mode in LEVELS:
            for upper in (1, 2, 3, 4):
                for lower in (1, 2, 3, 4):
                    device = (mode, policy_of(upper, 2), policy_of(lower, 64))
                    self.assertEqual(count_lines(device), upper + lower)
                    self.assertEqual(count_lines(device=device), upper + lower)

    def test_what_is_no_device(self):
        for value in odd_values() + [0, nested([], 99), LRU, [LRU], *wrong_devices()]:
            self.check_refused(value)
        for policy in wrong_policies():
            self.check_refused(("cache", policy))
            self.check_refused(("victim", LRU, policy))
        for device in small_devices():
            for value in changed_anywhere(device):
                self.check_refused(value)


class SameAgainTest(unittest.TestCase):

    def test_arguments_are_not_modified_and_results_are_the_same_again(self):
        wrong = [["cache", list(LRU)], {"cache": [LRU]}, ("cache", (2, [LRU[1]])), [1, [[0, 0, [0]]]]]
        for value in right_policies() + right_devices() + wrong:
            before = copy.deepcopy(value)
            first = is_policy(value), is_device(value)
            lines = count_lines(value) if first[1] else None
            self.assertEqual((is_policy(value), is_device(value)), first)
            if first[1]:
                self.assertEqual(count_lines(value), lines)
            else:
                self.assertRaises(InvalidDevice, count_lines, value)
            self.assertEqual(value, before)


class ExampleTest(unittest.TestCase):

    def test_example_of_the_document(self):
        run_example(self, """
>>> from missbounds.policies import count_lines, is_device, is_policy
>>> lru = (2, ((0, 1, (1, 0)), (1, 0, (1, 0))))
>>> [is_policy(lru), is_policy((1, ((0, 1, (0,)),))), is_device(("plain", lru, lru)), count_lines(("victim", lru, (1, ((0, 0, (0,)),))))]
[True, False, True, 3]
""")


if __name__ == "__main__":
    unittest.main()
