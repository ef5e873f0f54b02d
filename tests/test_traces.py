import copy
import random
import unittest

import reference
from helper import odd_values, run_example
from missbounds.catalog import fifo, lru, mru
from missbounds.errors import InvalidDevice, InvalidHistory, InvalidTimes
from missbounds.traces import answers, count_misses, far_misses, long_run
from refused import check_parameters, indexes_told, values_told
from samples import (
    FOUR, LEVELS, LRU, ONE, THREE, counter, random_device, random_history, right_devices, wrong_devices,
    wrong_histories,
)

MODES = ("cache",) + LEVELS
FIFO_ONE = (1, ((0, 0, (0,)),))
# One line that is replaced always; two lines of which line 0 is replaced first, then line 1, and so on.
TURNS = (2, ((0, 1, (0, 0)), (1, 0, (1, 1))))
NEVER_SECOND = (2, ((0, 0, (0, 0)),))
BIG = 10 ** 30


def marks(device, text):
    """Return the answers to the letters of a text as a text of + and -."""
    return "".join("+" if answer else "-" for answer in answers(device, tuple(text)))


def some_devices(chance, many, **most):
    """Return devices of all modes, so many of each."""
    return [random_device(chance, mode, **most) for mode in MODES for _ in range(many)]


class AnswersTest(unittest.TestCase):

    def test_a_cache_by_hand(self):
        self.assertEqual(marks(("cache", FIFO_ONE), "aabbaab"), "-+-+-+-")
        self.assertEqual(marks(("cache", TURNS), "abacab"), "--+---")
        self.assertEqual(marks(("cache", TURNS), "abcbac"), "---+-+")
        # The policy alone tells the line, even if another line is empty.
        self.assertEqual(marks(("cache", NEVER_SECOND), "abab"), "----")

    def test_a_hit_leads_to_the_state_for_its_line(self):
        # State 1 has line 1 as its victim, and a hit on line 1 leads to state 0.
        table = (2, ((0, 1, (0, 0)), (1, 1, (1, 0))))
        self.assertEqual(marks(("cache", table), "abbcb"), "--+-+")
        self.assertEqual(marks(("cache", table), "abacb"), "--+--")
        self.assertEqual(marks(("cache", table), "abbcab"), "--+---")
        self.assertEqual(marks(("cache", table), "abacab"), "--+-+-")

    def test_a_miss_leads_to_after_of_the_row_before(self):
        table = (2, ((0, 1, (0, 0)), (1, 2, (1, 1)), (1, 0, (2, 2))))
        self.assertEqual(marks(("cache", table), "abcbab"), "-----+")
        self.assertEqual(marks(("cache", table), "abcacb"), "---++-")

    def test_a_name_that_the_upper_level_drops(self):
        # The upper level keeps one name, the lower one two.
        self.assertEqual(marks(("plain", FIFO_ONE, TURNS), "abaca"), "--+--")
        self.assertEqual(marks(("plain", FIFO_ONE, TURNS), "abacb"), "--+-+")
        self.assertEqual(marks(("inclusive", FIFO_ONE, TURNS), "abacb"), "--+-+")
        self.assertEqual(marks(("victim", FIFO_ONE, TURNS), "abaca"), "--+-+")
        self.assertEqual(marks(("victim", FIFO_ONE, TURNS), "abacb"), "--+-+")
        self.assertEqual(marks(("victim", FIFO_ONE, FIFO_ONE), "abcab"), "-----")
        self.assertEqual(marks(("victim", FIFO_ONE, FIFO_ONE), "abaab"), "--+++")

    def test_a_hit_of_the_upper_level_leaves_the_lower_one(self):
        # The lower level counts each request that reaches it: its line is kept in state 0 only.
        lower = (2, ((0, 1, (1, 1)), (1, 0, (0, 0))))
        self.assertEqual(marks(("plain", FIFO_ONE, lower), "aabac"), "-+-+-")
        self.assertEqual(marks(("plain", FIFO_ONE, lower), "aaabcb"), "-++--+")
        self.assertEqual(marks(("victim", FIFO_ONE, lower), "aaabcbacdb"), "-++--+++-+")
        self.assertEqual(marks(("victim", FIFO_ONE, lower), "aaabcbacda"), "-++--+++--")

    def test_inclusive_takes_a_name_from_the_upper_level_too(self):
        # The upper level keeps a in line 0 for ever; the lower one holds one name.
        upper = (2, ((0, 1, (0, 0)), (1, 1, (1, 1))))
        self.assertEqual(marks(("plain", upper, FIFO_ONE), "abaca"), "--+-+")
        self.assertEqual(marks(("inclusive", upper, FIFO_ONE), "abaca"), "-----")
        # The line becomes empty, its state stays, so line 1 is taken further on.
        self.assertEqual(marks(("inclusive", upper, FIFO_ONE), "abbab"), "--+--")

    def test_inclusive_keeps_names_that_the_lower_level_holds(self):
        self.assertEqual(marks(("inclusive", TURNS, TURNS), "abab"), "--++")
        self.assertEqual(marks(("inclusive", TURNS, TURNS), "abcbcb"), "---+++")
        self.assertEqual(marks(("inclusive", NEVER_SECOND, TURNS), "aba"), "--+")

    def test_victim_without_a_name_that_was_replaced(self):
        # The first two names find empty lines, so nothing goes to the lower level.
        self.assertEqual(marks(("victim", TURNS, FIFO_ONE), "abcab"), "---++")
        self.assertEqual(marks(("victim", TURNS, FIFO_ONE), "abcdab"), "------")
        # Line 1 of the upper level is empty when a comes back: its line below becomes empty too.
        upper = (2, ((0, 1, (0, 0)), (0, 2, (1, 1)), (1, 0, (2, 2))))
        self.assertEqual(marks(("victim", upper, FIFO_ONE), "abaab"), "--+++")
        self.assertEqual(marks(("victim", upper, FIFO_ONE), "abac"), "--+-")
        self.assertEqual(marks(("victim", upper, FIFO_ONE), "abacab"), "--+-++")

    def test_devices_against_the_words_of_the_document(self):
        chance = random.Random(1)
        for device in some_devices(chance, 40):
            for letters in ("a", "ab", "abc", "abcdef", "abcdefghijkl"):
                history = random_history(chance, tuple(letters), 60)
                self.assertEqual(answers(device, history), reference.answers(device, history))

    def test_large_tables_and_long_names(self):
        chance = random.Random(2)
        names = ("z", "zz", "zzz", "zzzz", "zzzzz", "zzzzzz", "a", "aaaaaa", "azazaz", "cache")
        for device in right_devices() + some_devices(chance, 5, most_states=64):
            history = random_history(chance, names, 300)
            self.assertEqual(answers(device, history), reference.answers(device, history))
            self.assertEqual(count_misses(device, history), reference.misses(device, history))

    def test_short_and_long_histories(self):
        for device in right_devices():
            self.assertEqual(answers(device, ()), ())
            self.assertEqual(count_misses(device, ()), 0)
            self.assertEqual(answers(device, ("b",)), (False,))
            self.assertEqual(answers(device, ("b",) * 2000), (False,) + (True,) * 1999)
            self.assertEqual(count_misses(device, ("abcdef",) * 2000), 1)
        turn = tuple("abcde" * 400)
        self.assertEqual(count_misses(("cache", FOUR), turn), reference.misses(("cache", FOUR), turn))
        self.assertEqual(count_misses(("cache", lru(4)), turn), 2000)

    def test_answers_are_a_tuple_of_true_and_false(self):
        told = answers(device=("cache", LRU), names=("a", "b", "a"))
        self.assertIsInstance(told, tuple)
        self.assertEqual([answer is True for answer in told], [False, False, True])
        self.assertEqual([answer is False for answer in told], [True, True, False])
        self.assertEqual(count_misses(device=("cache", LRU), names=("a", "b", "a")), 2)


class FarMissesTest(unittest.TestCase):

    def check_few_times(self, device, ahead, circle):
        """Compare with the history that is written out, for all times from 0 to 12."""
        for times in range(13):
            expected = reference.misses(device, ahead + circle * times)
            self.assertEqual(far_misses(device, ahead, circle, times), expected, (device, ahead, circle, times))

    def test_few_times(self):
        chance = random.Random(3)
        for device in some_devices(chance, 15):
            for letters in ("abc", "abcdefgh"):
                ahead = random_history(chance, tuple(letters), chance.randint(0, 6))
                circle = random_history(chance, tuple(letters), chance.randint(1, 9))
                self.check_few_times(device, ahead, circle)

    def test_times_that_are_written_out(self):
        chance = random.Random(4)
        for device in some_devices(chance, 4, most_states=64):
            circle = random_history(chance, tuple("abcdef"), 7)
            for times in (97, 285):
                expected = reference.misses(device, ("a",) + circle * times)
                self.assertEqual(far_misses(device, ("a",), circle, times), expected)

    def test_empty_parts(self):
        device = ("cache", lru(2))
        for times in (0, 1, 2, 17, BIG - 1, BIG):
            self.assertEqual(far_misses(device, (), (), times), 0)
            self.assertEqual(far_misses(device, ("a", "b", "c", "a"), (), times), 4)
            self.assertEqual(far_misses(device, (), ("a", "b", "c"), times), 3 * times)
            self.assertEqual(far_misses(device, (), ("a",), times), min(times, 1))
        self.assertEqual(far_misses(device, ("a",), ("b", "c", "d"), 0), 1)

    def test_many_times(self):
        device = ("cache", lru(2))
        self.assertEqual(far_misses(device, ("a",), ("b", "a"), BIG), 2)
        self.assertEqual(far_misses(device, ("a",), ("b", "a", "c"), BIG), 3 * BIG)
        self.assertEqual(far_misses(("cache", mru(2)), (), ("a", "b", "c"), BIG), 3 + (BIG - 1) * 3 // 2)
        self.assertEqual(far_misses(device=device, ahead=("a",), circle=("a", "b"), times=BIG), 2)

    def test_many_times_against_rounds_that_are_gone_through(self):
        chance = random.Random(5)
        for device in some_devices(chance, 12):
            ahead = random_history(chance, tuple("abcdef"), 3)
            circle = random_history(chance, tuple("abcdef"), chance.randint(1, 8))
            first, period, gained = rounds_of(device, ahead, circle)
            for times in (BIG, BIG - 1, BIG - 7, 10 ** 12 + 3, first + period, first + 3 * period + 1):
                laps, rest = divmod(max(times - first, 0), period)
                expected = laps * gained + reference.misses(device, ahead + circle * (min(first, times) + rest))
                self.assertEqual(far_misses(device, ahead, circle, times), expected)

    def test_a_circle_of_2000_requests(self):
        circle = tuple("abc" * 666 + "ab")
        self.assertEqual(far_misses(("cache", lru(2)), ("a",) * 2000, circle, 3), reference.misses(
            ("cache", lru(2)), ("a",) * 2000 + circle * 3))
        self.assertEqual(far_misses(("cache", lru(4)), circle, circle, BIG), 3)


def rounds_of(device, ahead, circle):
    """Return the first round that comes again, the period and the misses in a period, behind a history."""
    machine, told = reference.run(device, ahead)
    places, gains = [], []
    while machine.place() not in places:
        places.append(machine.place())
        gains.append(sum(1 for name in circle if not machine.request(name)))
    first = places.index(machine.place())
    return first, len(places) - first, sum(gains[first:])


class LongRunTest(unittest.TestCase):

    def test_rounds_that_end_alike_at_once(self):
        self.assertEqual(long_run(("cache", lru(2)), ("a", "b")), (1, 1, 0))
        self.assertEqual(long_run(("cache", FIFO_ONE), ("a",)), (1, 1, 0))
        self.assertEqual(long_run(("cache", FIFO_ONE), ("a", "b")), (1, 1, 2))
        self.assertEqual(long_run(("plain", FIFO_ONE, FIFO_ONE), ("a", "b", "b")), (1, 1, 2))

    def test_rounds_that_end_alike_late(self):
        # The state goes on with each request, in a circle of so many.
        for states in (1, 2, 3, 7, 64):
            self.assertEqual(long_run(counter(states), ("a",)), (1, states, 0))
            self.assertEqual(long_run(counter(states), ("a", "b")), (1, states // 2 if states % 2 == 0 else states, 2 * (
                states // 2 if states % 2 == 0 else states)))
        self.assertEqual(long_run(counter(4, 60), ("a",)), (60, 4, 0))
        self.assertEqual(long_run(counter(1, 63), ("a",)), (63, 1, 0))
        self.assertEqual(long_run(counter(1, 63), ("a", "a")), (32, 1, 0))
        self.assertEqual(long_run(counter(5, 7), ("a", "b", "c")), (3, 5, 15))

    def test_the_empty_circle(self):
        for device in right_devices():
            self.assertEqual(long_run(device, ()), (0, 1, 0))

    def test_the_period_counts_names_and_states_and_not_only_misses(self):
        self.assertEqual(long_run(("cache", lru(2)), ("a", "b", "c")), (1, 2, 6))
        self.assertEqual(long_run(("cache", fifo(3)), ("a", "b", "c", "d")), (1, 3, 12))
        self.assertEqual(long_run(device=("cache", lru(2)), circle=("a", "b", "c")), (1, 2, 6))

    def test_against_rounds_that_are_gone_through(self):
        chance = random.Random(6)
        for device in some_devices(chance, 30) + some_devices(chance, 5, most_states=64):
            circle = random_history(chance, tuple("abcdefg"), chance.randint(1, 12))
            self.assertEqual(long_run(device, circle), rounds_of(device, (), circle))

    def test_a_circle_of_2000_requests(self):
        circle = tuple("abcdefg" * 285 + "abcde")
        for device in (("cache", lru(4)), ("victim", LRU, THREE), ("inclusive", ONE, FOUR)):
            self.assertEqual(long_run(device, circle), rounds_of(device, (), circle))


class WrongInputTest(unittest.TestCase):

    def wrong(self):
        devices = odd_values() + [0, LRU, ["cache", LRU], *list(wrong_devices())[::7]]
        times = odd_values() + [BIG + 1, BIG * 10, -BIG, (1,)]
        history = indexes_told(InvalidHistory, wrong_histories())
        return {
            "device": values_told(InvalidDevice, devices), "names": history, "ahead": history, "circle": history,
            "times": values_told(InvalidTimes, times),
        }

    def test_each_parameter_and_two_at_once(self):
        device, names = ("cache", LRU), ("a", "b", "a")
        check_parameters(self, answers, ("device", "names"), (device, names), self.wrong())
        check_parameters(self, count_misses, ("device", "names"), (device, names), self.wrong())
        check_parameters(self, long_run, ("device", "circle"), (device, names), self.wrong())
        right = (device, names, ("b",), 2)
        check_parameters(self, far_misses, ("device", "ahead", "circle", "times"), right, self.wrong())

    def test_arguments_are_not_modified_and_results_are_the_same_again(self):
        for device in right_devices():
            before = copy.deepcopy(device)
            history = tuple("abcabdcaeb")
            for call in (
                lambda: answers(device, history), lambda: count_misses(device, history),
                lambda: long_run(device, history), lambda: far_misses(device, history, history, BIG),
            ):
                self.assertEqual(call(), call())
            self.assertEqual((device, history), (before, tuple("abcabdcaeb")))


class ExampleTest(unittest.TestCase):

    def test_examples_of_the_document(self):
        run_example(self, """
>>> from missbounds.catalog import fifo, lru
>>> from missbounds.traces import count_misses, far_misses, long_run
>>> device = ("cache", lru(2))
>>> [count_misses(device, ("a", "b", "c", "a")), far_misses(device, ("a",), ("b", "a"), 10 ** 30), long_run(device, ("a", "b")), long_run(device, ("a", "b", "c"))]
[4, 2, (1, 1, 0), (1, 2, 6)]
""")


if __name__ == "__main__":
    unittest.main()
