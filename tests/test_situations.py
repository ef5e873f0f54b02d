import copy
import itertools
import random
import unittest

import reference
from helper import nested, odd_values, run_example
from missbounds.catalog import fifo, lru, mru, named
from missbounds.errors import (
    InvalidCount, InvalidDevice, InvalidHistory, InvalidSituation, InvalidStep, InvalidSteps, TooManySituations,
)
from missbounds.situations import after, each_situation, names_of, situation_of, steps_of
from refused import check_parameters, check_refused, indexes_told, values_told
from samples import (
    FOUR, LEVELS, LRU, ONE, PAIR_600, PAIR_601, THREE, policy_of, random_device, random_history, wrong_devices,
    wrong_histories,
)

MODES = ("cache",) + LEVELS
SINGLE = ("cache", (1, ((0, 0, (0,)),)))
WRONG_COUNTS = [0, 13, 14, -1, 10 ** 39, -10 ** 39, "1", (1,), [1], {1: 1}, {1}, 600]


def some_pairs(chance, many, **most):
    """Return pairs of devices, so many for each two modes."""
    return [
        (random_device(chance, mode, **most), random_device(chance, other, **most))
        for mode in MODES for other in MODES for _ in range(many)
    ]


class HistoryTest(unittest.TestCase):

    def test_by_hand(self):
        one, other = ("cache", lru(2)), ("cache", fifo(2))
        self.assertEqual(situation_of(one, other, ()), ((0, 0), (None,) * 4))
        self.assertEqual(situation_of(one, other, ("zz",)), ((1, 1), (0, None, 0, None)))
        self.assertEqual(situation_of(one, other, ("a", "b")), ((2, 2), (0, 1, 0, 1)))
        self.assertEqual(situation_of(one, other, ("a", "b", "a", "c")), ((2, 3), (0, 1, 1, 2)))
        self.assertEqual(situation_of(("victim", ONE, LRU), SINGLE, ("a", "b")), ((0, 1, 0), (0, 1, None, 0)))
        self.assertEqual(situation_of(("plain", ONE, LRU), SINGLE, ("a", "b")), ((0, 0, 0), (0, 1, 0, 0)))
        self.assertEqual(steps_of(one, other, ("a", "b", "a", "b", "a")), (0, 1, 0, 1, 0))
        self.assertEqual(steps_of(SINGLE, SINGLE, ("a", "b", "a", "a")), (0, 1, 1, 0))
        self.assertEqual(steps_of(SINGLE, SINGLE, ()), ())
        self.assertEqual(names_of(SINGLE, SINGLE, ()), ())
        self.assertEqual(names_of(SINGLE, SINGLE, (0, 1, 1, 0, 1)), ("a", "b", "a", "a", "b"))
        self.assertEqual(names_of(one, other, (0, 1, 0, 2, 2)), ("a", "b", "a", "c", "b"))

    def test_both_devices_run_apart(self):
        chance = random.Random(21)
        for one, other in some_pairs(chance, 8):
            for letters in ("a", "abc", "abcdefghijklmnopqr"):
                history = random_history(chance, tuple(letters), 40)
                pair = reference.Pair(one, other)
                steps = tuple([pair.request(name) for name in history])
                self.assertEqual(situation_of(one, other, history), pair.situation())
                self.assertEqual(steps_of(one, other, history), steps)
                self.check_names(one, other, steps)

    def check_names(self, one, other, steps):
        """Check the names of steps, and that they lead back to the steps and to the same situation."""
        names = names_of(one, other, steps)
        pair, told = reference.followed(one, other, steps)
        self.assertEqual(names, pair.asked)
        self.assertEqual(steps_of(one, other, names), steps)
        self.assertEqual(situation_of(one, other, names), pair.situation())

    def test_all_short_steps(self):
        chance = random.Random(22)
        for one, other in some_pairs(chance, 1, most_lines=2, most_states=3):
            for steps, pair, told in reference.each_steps(one, other, 4):
                self.assertEqual(names_of(one, other, steps), pair.asked)
                self.assertEqual(names_of(steps=steps, other=other, one=one), pair.asked)
                self.assertEqual(steps_of(one=one, other=other, names=pair.asked), steps)
                self.assertEqual(situation_of(names=pair.asked, one=one, other=other), pair.situation())

    def test_names_are_the_first_spare_ones(self):
        # A name that is dropped is spare again.
        self.assertEqual(names_of(SINGLE, SINGLE, (0, 1, 1, 1)), ("a", "b", "a", "b"))
        # Sixteen lines that hold sixteen names: both devices replace other names.
        first = ("plain", (4, tuple((at % 4, (at + 1) % 4, (at,) * 4) for at in range(4))), fifo(4))
        second = ("victim", (4, ((0, 0, (0,) * 4),)), mru(4))
        steps = tuple([len(held) for held in self.held_before(first, second, 60)])
        names = names_of(first, second, steps)
        self.assertEqual(names, reference.followed(first, second, steps)[0].asked)
        self.assertGreater(max(steps), 6)
        self.assertGreaterEqual(max(names), "h")

    def held_before(self, one, other, many):
        """Return the names that are held before each of so many requests for new names."""
        pair = reference.Pair(one, other)
        for _ in range(many):
            held = pair.names()
            yield held
            pair.step(len(held))

    def test_the_longest_histories(self):
        one, other = ("victim", LRU, ONE), ("inclusive", THREE, FOUR)
        names = tuple(("abcdefg" * 286)[:2000])
        pair = reference.Pair(one, other)
        steps = tuple([pair.request(name) for name in names])
        self.assertEqual(situation_of(one, other, names), pair.situation())
        self.assertEqual(steps_of(one, other, names), steps)
        self.assertEqual(names_of(one, other, steps), reference.followed(one, other, steps)[0].asked)
        self.assertEqual(names_of(one, other, (0,) * 2000), ("a",) * 2000)


class AfterTest(unittest.TestCase):

    def test_by_hand(self):
        one, other = ("cache", lru(2)), ("cache", fifo(2))
        situation = ((2, 2), (0, 1, 0, 1))
        self.assertEqual(after(one, other, situation, 0), (True, True, ((3, 2), (0, 1, 0, 1))))
        self.assertEqual(after(one, other, situation, 1), (True, True, ((2, 2), (0, 1, 0, 1))))
        self.assertEqual(after(one, other, situation, 2), (False, False, ((3, 3), (0, 1, 0, 1))))
        self.assertEqual(after(one, other, ((3, 2), (0, 1, 1, 2)), 2), (False, True, ((2, 2), (0, 1, 2, 1))))
        self.assertEqual(after(SINGLE, SINGLE, ((0, 0), (None, None)), 0), (False, False, ((0, 0), (0, 0))))

    def test_situations_that_histories_lead_to(self):
        chance = random.Random(23)
        for one, other in some_pairs(chance, 3):
            pair = reference.Pair(one, other)
            for _ in range(12):
                before = pair.situation()
                for step in range(pair.steps(None)):
                    twin = pair.twin()
                    told = twin.step(step)
                    self.assertEqual(after(one, other, before, step), (*told, twin.situation()))
                    self.assertEqual(
                        after(step=step, situation=before, other=other, one=one), (*told, twin.situation()))
                self.check_steps(one, other, before, pair.steps(None))
                pair.step(chance.randrange(pair.steps(None)))

    def check_steps(self, one, other, situation, many):
        """Check that nothing else is a step."""
        for value in [many, many + 1, 10 ** 39, (0,), [0]] + odd_values():
            check_refused(self, InvalidStep, {"value": value}, after, one, other, situation, value)

    def test_situations_that_no_history_leads_to(self):
        # Contents and states that are put into the lines by hand.
        chance = random.Random(24)
        for one, other in some_pairs(chance, 6):
            pair = self.filled(chance, one, other)
            before = pair.situation()
            for step in range(pair.steps(None)):
                twin = pair.twin()
                told = twin.step(step)
                self.assertEqual(after(one, other, before, step), (*told, twin.situation()))
            self.check_steps(one, other, before, pair.steps(None))

    def filled(self, chance, one, other):
        """Return a pair with any states and contents that a situation may have."""
        pair = reference.Pair(one, other)
        for machine in (pair.one, pair.other):
            names = chance.sample("abcdefghijk", 8)
            for level, policy in enumerate(machine.policies):
                machine.states[level] = chance.randrange(len(policy[1]))
                here = names[level * 4:] if machine.mode == "victim" else chance.sample("abcdef", 4)
                machine.lines[level] = [chance.choice([None, here[line]]) for line in range(policy[0])]
        return pair

    def test_all_situations_of_small_devices(self):
        # All numbers and states are tried; what is a situation is told by counting and not by a search.
        two = ("cache", LRU)
        right = 0
        for states in itertools.product((-1, 0, 1, 2), repeat=2):
            for contents in itertools.product((None, 0, 1, 2), repeat=3):
                if self.check_situation(two, SINGLE, (states, contents)):
                    right += 1
        # Two states; the lines of the first hold 0, 1 or 2 names, and the other one none, one of these, or a new one.
        self.assertEqual(right, 2 * (2 + 2 * 3 + 1 * 4))

    def check_situation(self, one, other, value):
        """Return whether a value is a situation, by point 9, and check that `after` says the same."""
        states, contents = value
        numbers = [number for number in contents if number is not None]
        lines = one[1][0]
        right = all([0 <= state < len(policy[1]) for state, policy in zip(states, one[1:] + other[1:])])
        right = right and all([number in numbers[:at] or number == len(set(numbers[:at]))
                               for at, number in enumerate(numbers)])
        for level in (contents[:lines], contents[lines:]):
            held = [number for number in level if number is not None]
            right = right and len(set(held)) == len(held)
        if right:
            self.assertEqual(len(after(one, other, value, 0)), 3)
        else:
            check_refused(self, InvalidSituation, {"value": value}, after, one, other, value, 0)
        return right

    def test_two_levels(self):
        victim, plain = ("victim", LRU, LRU), ("plain", LRU, LRU)
        both = ((0, 1, 0), (0, 1, 1, None, 0))
        check_refused(self, InvalidSituation, {"value": both}, after, victim, SINGLE, both, 0)
        self.assertEqual(after(plain, SINGLE, both, 1)[:2], (True, False))
        self.assertEqual(after(("inclusive", LRU, LRU), SINGLE, both, 1)[:2], (True, False))
        apart = ((0, 1, 0), (0, 1, 2, None, 0))
        self.assertEqual(after(victim, SINGLE, apart, 2)[:2], (True, False))
        behind = ((0, 0, 1), (None, 0, None, 1, 0))
        self.assertEqual(after(SINGLE, victim, ((0, 0, 1), (None, 0, None, 1, None)), 1)[:2], (False, True))
        check_refused(self, InvalidSituation, {"value": behind}, after, SINGLE, victim, behind, 0)
        for device in (plain, victim):
            for contents in ((0, 0, None, None, None), (None, None, 0, 0, None), (0, 1, 2, 2, None)):
                twice = ((0, 0, 0), contents)
                check_refused(self, InvalidSituation, {"value": twice}, after, device, SINGLE, twice, 0)
        # The devices of a pair may hold the same names.
        shared = ((0, 0, 0, 0), (0, 1, None, 2, 0, 2, 1, 3))
        self.assertEqual(after(victim, victim, shared, 3)[:2], (False, True))
        self.assertEqual(after(victim, victim, shared, 4)[:2], (False, False))

    def test_values_that_are_no_situations(self):
        one, other = ("cache", LRU), SINGLE
        begin = ((0, 0), (None, None, None))
        wrong = odd_values() + [0, begin[0], begin[1], begin[::-1], begin + (0,), (begin,), list(begin), nested((), 99)]
        wrong += [(list(begin[0]), begin[1]), (begin[0], list(begin[1])), ((0,), begin[1]), ((0, 0, 0), begin[1])]
        wrong += [((0, 0), (None,) * 2), ((0, 0), (None,) * 4), ((0, 0), ()), ((), (None,) * 3), ((0, 0), 0), (0, (0,))]
        wrong += [((True, 0), begin[1]), ((0, False), begin[1]), ((0, None), begin[1]), ((0, 0), (False, None, None))]
        wrong += [((0, 0), (0, True, 0)), ((0, 0), (None, None, False)), ((0, 0), ("a", None, None)), ((2, 0), begin[1])]
        wrong += [((0, 1), begin[1]), ((-1, 0), begin[1]), ((0, 0), (1, 0, 2)), ((0, 0), (1, None, None))]
        wrong += [((0, 0), (0, 0, 0)), ((0, 0), (0, 2, 1)), ((0, 0), (0, 10 ** 39, 1)), ((0, 0), (-1, 0, 1))]
        wrong += [((0, 0), ([], {}, set())), (({}, []), begin[1]), ((0, 0), ((0,), None, None)), ((0, 0), (0, 1, 3))]
        for value in wrong:
            check_refused(self, InvalidSituation, {"value": value}, after, one, other, value, 0)
            check_refused(self, InvalidSituation, {"value": value}, after, one, other, value, "no step")


class EachSituationTest(unittest.TestCase):

    def check(self, one, other, names):
        expected = reference.situations(one, other, names, limit=600)
        if expected is None:
            check_refused(self, TooManySituations, {"limit": 600}, each_situation, one, other, names=names)
            return
        found = list(each_situation(one, other, names=names))
        self.assertEqual(found, list(expected))
        self.assertEqual(list(each_situation(names=names, other=other, one=one)), found)

    def test_small_devices(self):
        chance = random.Random(25)
        for one, other in some_pairs(chance, 4, most_lines=2, most_states=3):
            for names in (None, 1, 2, 3, 12):
                self.check(one, other, names)

    def test_the_order_by_the_shortest_and_least_steps(self):
        for titles in itertools.product(("lru", "fifo", "mru", "lifo"), repeat=2):
            one, other = [("cache", named(title, 2)) for title in titles]
            for names in (None, 1, 2, 3, 4, 5):
                firsts = {}
                for steps, pair, told in reference.each_steps(one, other, 6, names):
                    firsts.setdefault(pair.situation(), steps)
                found = list(each_situation(one, other, names=names))
                self.assertEqual(found[:len(firsts)], list(firsts))

    def test_all_numbers_of_names(self):
        one, other = ("cache", lru(3)), ("cache", fifo(2))
        counts = []
        for names in (*range(1, 13), None):
            found = list(each_situation(one, other, names=names))
            self.assertEqual(found, list(reference.situations(one, other, names)))
            counts.append(len(found))
        self.assertEqual(counts, sorted(counts))
        self.assertEqual(len(set(counts[:4])), 4)
        self.assertEqual(list(each_situation(one, other)), found)
        single = [((0, 0), (None, None)), ((0, 0), (0, 0))]
        for names in (None, *range(1, 13)):
            self.assertEqual(list(each_situation(SINGLE, SINGLE, names=names)), single)

    def test_names_that_neither_device_holds_are_allowed_again(self):
        # With one name at most, a device whose lines are emptied may be asked for a new one; this one never is.
        one = ("cache", fifo(2))
        self.assertEqual(len(list(each_situation(one, one, names=1))), 2)
        self.assertEqual(len(list(each_situation(one, one, names=2))), 3)
        self.assertEqual(len(list(each_situation(SINGLE, SINGLE, names=1))), 2)

    def test_600_and_601_situations(self):
        self.assertEqual(list(each_situation(*PAIR_600)), list(reference.situations(*PAIR_600)))
        self.assertEqual(len(list(each_situation(*PAIR_600, names=12))), 600)
        for names in (None, 2, 12):
            check_refused(self, TooManySituations, {"limit": 600}, each_situation, *PAIR_601, names=names)
        self.assertEqual(len(list(each_situation(*PAIR_601, names=1))), len(reference.situations(*PAIR_601, 1)))

    def test_too_many_situations_are_told_at_once(self):
        begun = each_situation(*PAIR_601)
        self.assertRaises(TooManySituations, next, begun)
        big = ("cache", policy_of(4, 64))
        self.assertRaises(TooManySituations, next, each_situation(big, ("victim", policy_of(4, 63), policy_of(3, 61))))

    def test_errors_come_when_the_iteration_begins(self):
        for args, named, error in (
            ((None, SINGLE), {}, InvalidDevice), ((SINGLE, None), {}, InvalidDevice),
            ((SINGLE, SINGLE), {"names": 0}, InvalidCount), (PAIR_601, {"names": 13}, InvalidCount),
        ):
            begun = each_situation(*args, **named)
            self.assertRaises(error, next, begun)

    def test_iterations_within_one_another(self):
        one, other = ("cache", lru(2)), ("cache", fifo(2))
        expected = list(reference.situations(one, other))
        found = []
        for outer in each_situation(one, other):
            found.append((outer, list(each_situation(one, other))))
        self.assertEqual(found, [(outer, expected) for outer in expected])
        first, second = each_situation(one, other), each_situation(one, other)
        self.assertEqual([(next(first), next(second)) for _ in expected], [(outer, outer) for outer in expected])


class WrongInputTest(unittest.TestCase):

    def wrong(self):
        devices = odd_values() + [0, LRU, ["cache", LRU], *list(wrong_devices())[::9]]
        counts = WRONG_COUNTS + [value for value in odd_values() if value is not None]
        told = values_told(InvalidDevice, devices)
        return {"one": told, "other": told, "names": values_told(InvalidCount, counts)}

    def test_each_parameter_and_two_at_once(self):
        right = (("cache", LRU), SINGLE)
        wrong = self.wrong()
        parameters = ("one", "other", "names")
        check_parameters(self, each_situation, parameters, (*right, 2), wrong, only_named=("names",))
        self.assertRaises(TypeError, each_situation, *right, 2)
        history = {**wrong, "names": indexes_told(InvalidHistory, wrong_histories())}
        check_parameters(self, situation_of, parameters, (*right, ("a", "b")), history)
        check_parameters(self, steps_of, parameters, (*right, ("a", "b")), history)
        places = {
            **wrong, "situation": values_told(InvalidSituation, [((0, 0), ()), None, ((0, 0), (1, None, None)), []]),
            "step": values_told(InvalidStep, [1, -1, True, False, None, "0", [], (0,)]),
        }
        begin = ((0, 0), (None, None, None))
        check_parameters(self, after, ("one", "other", "situation", "step"), (*right, begin, 0), places)
        steps = {**wrong, "steps": indexes_told(InvalidSteps, self.wrong_steps())}
        check_parameters(self, names_of, ("one", "other", "steps"), (*right, (0, 1)), steps)

    def wrong_steps(self):
        """Return values that are no steps from the beginning of an lru cache and a single one, with the index."""
        found = [(value, None) for value in odd_values() if not isinstance(value, tuple)]
        found += [(0, None), ([0], None), ("0", None), ((0,) * 2001, None), (("a",) * 2001, None), ({0: 0}, None)]
        found += [((1,), 0), ((-1,), 0), ((0, 2), 1), ((0, 1, 3), 2), ((0, 1, 2, 9), 3), ((0, 0, 2), 2), ((0, 5, 5), 1)]
        found += [((0,) * 1999 + (2,), 1999), ((1,) + (0,) * 1999, 0), ((10 ** 39,), 0), ((0, -1, 7), 1)]
        for value in odd_values():
            found += [((value,), 0), ((0, value), 1), ((0, 1, value, value), 2)]
        return found

    def test_steps_that_too_few_names_allow(self):
        # The step for a new name is the number of names, whatever was requested before.
        self.assertEqual(names_of(SINGLE, SINGLE, (0, 1, 1, 1)), ("a", "b", "a", "b"))
        check_refused(self, InvalidSteps, {"index": 2}, names_of, SINGLE, SINGLE, (0, 1, 2))
        check_refused(self, InvalidSteps, {"index": 3}, names_of, ("cache", fifo(2)), SINGLE, (0, 1, 2, 3))

    def test_arguments_are_not_modified_and_results_are_the_same_again(self):
        one, other = ("victim", LRU, ONE), ("inclusive", THREE, LRU)
        before = copy.deepcopy((one, other))
        names = tuple("abcaddcbae")
        situation = situation_of(one, other, names)
        for call in (
            lambda: situation_of(one, other, names), lambda: steps_of(one, other, names),
            lambda: names_of(one, other, (0, 1, 2, 0)), lambda: after(one, other, situation, 1),
            lambda: list(each_situation(one, other, names=2)),
        ):
            self.assertEqual(call(), call())
        self.assertEqual((one, other, names), (*before, tuple("abcaddcbae")))
        self.assertEqual(situation, situation_of(one, other, names))


class ExampleTest(unittest.TestCase):

    def test_examples_of_the_document(self):
        run_example(self, """
>>> from missbounds.catalog import fifo, lru
>>> from missbounds.situations import after, each_situation, names_of, situation_of, steps_of
>>> one, other = ("cache", lru(2)), ("cache", fifo(2))
>>> found = [situation_of(one, other, ("a", "b", "a", "c"))[1], steps_of(one, other, ("x", "y", "x", "z", "y")), names_of(one, other, (0, 1, 0, 2, 2))]
>>> single = ("cache", (1, ((0, 0, (0,)),)))
>>> found + [after(one, other, situation_of(one, other, ("a",)), 0)[:2], list(each_situation(single, single))]
[(0, 1, 1, 2), (0, 1, 0, 2, 2), ('a', 'b', 'a', 'c', 'b'), (True, True), [((0, 0), (None, None)), ((0, 0), (0, 0))]]
""")


if __name__ == "__main__":
    unittest.main()
