import copy
import itertools
import random
import unittest
from fractions import Fraction

import reference
from helper import changed_by, nested, odd_values, run_example
from missbounds.catalog import fifo, lru, mru
from missbounds.errors import InvalidCount, InvalidDevice, InvalidProgram, TooManySituations
from missbounds.programs import each_path, is_program, most_misses, verdicts, worst_rate
from refused import check_parameters, check_refused, values_told
from samples import (
    LEVELS, LRU, ONE, PROGRAM_600, PROGRAM_601, random_device, ring, small_devices, wrong_devices, wrong_names,
)

MODES = ("cache",) + LEVELS
LOOP = (("a", (1,)), ("b", (0, 2)), ("c", (0,)))
WRONG_LENGTHS = [0, 13, 14, -1, 10 ** 39, "1", (1,), [1], {1: 1}, {1}]


def line(text):
    """Return a program of places one behind the other, for the letters of a text."""
    return tuple([(letter, (place + 1,) if place + 1 < len(text) else ()) for place, letter in enumerate(text)])


def random_program(chance, most_places, most_names, most_targets):
    """Return a program with up to so many places, names and targets of a place."""
    many = chance.randint(1, most_places)
    names = ["a", "bb", "ccc", "d", "e", "f", "g", "h"][:most_names]
    return tuple([
        (chance.choice(names), tuple(sorted(chance.sample(range(many), min(many, chance.randint(0, most_targets))))))
        for _ in range(many)
    ])


def random_ring(chance, most_names):
    """Return a program of one circle, with a way behind each place to the next one, and some ways back."""
    names = [chance.choice("abcdefgh"[:most_names]) for _ in range(chance.randint(3, 9))]
    many = len(names)
    ways = [{(place + 1) % many} | ({chance.randrange(place + 1)} if chance.random() < 0.2 else set())
            for place in range(many)]
    return tuple([(name, tuple(sorted(targets))) for name, targets in zip(names, ways)])


def paths_of(program, length):
    """Return the paths with so many elements: all tuples of indexes that are none left out."""
    paths = [(0,)]
    for _ in range(length - 1):
        paths = [path + (target,) for path in paths for target in range(len(program)) if target in program[path[-1]][1]]
    return paths


def greatest_mean(found):
    """Return the greatest part of misses on a circle of moments, by the walks of each length to each moment."""
    moments = list(found)
    many = len(moments)
    best = [{moment: 0 for moment in moments}]
    for _ in range(many):
        row = {}
        for moment in moments:
            for behind in found[moment][1]:
                if moment in best[-1]:
                    count = best[-1][moment] + (not found[moment][0])
                    row[behind] = max(row.get(behind, count), count)
        best.append(row)
    means = [
        min(Fraction(best[many][moment] - best[length][moment], many - length)
            for length in range(many) if moment in best[length])
        for moment in best[many]
    ]
    return max(means, default=Fraction(0))


class IsProgramTest(unittest.TestCase):

    def test_right_programs(self):
        many = tuple([("a", tuple(range(30)))] * 30)
        eight = tuple([("abcdefgh"[place % 8], ()) for place in range(30)])
        programs = [
            (("a", ()),), (("a", (0,)),), (("zzzzzz", (0, 1)), ("aaaaaa", ())), LOOP, many, eight, ring(30, 8),
            line("abcdefgh"), (("a", (29,)),) * 30, (("a", ()), ("a", (0,)), ("a", (1, 2))),
        ]
        for program in programs:
            self.assertIs(is_program(program), True)
            self.assertIs(is_program(value=program), True)

    def wrong_programs(self):
        """Return what is no program, each wrong in one thing."""
        wrong = [(), (("a", ()),) * 31, tuple([("a", (0,))] * 64), line("abcdefghi"), ring(9, 8) + (("i", ()),)]
        wrong += [tuple([("abcdefghi"[place % 9], ()) for place in range(many)]) for many in (9, 10, 30)]
        for targets in (
            (1, 0), (0, 0), (0, 1, 1), (0, 2, 1), (-1,), (3,), (0, 3), (30,), (10 ** 39,), (True,), (False,), (None,),
            ("0",), (0, "1"), (0, None), ((0,),), [0], {0}, {0: 1}, "0", "", None, 0, 1, True, range(1), (0, 1, 2, 2),
            (0, True), (0, 1, 2, 3), ([],), nested((), 90),
        ):
            for place in range(3):
                wrong.append(LOOP[:place] + (("a", targets),) + LOOP[place + 1:])
        for name in wrong_names():
            wrong += [((name, ()),), (("a", ()), (name, (0,)))]
        wrong += [("a",), (("a",),), (("a", (), ()),), (("a", 0),), (["a", ()],), [("a", ())], {("a", ()): 1}, ("a", ())]
        wrong += [((("a",), ()),), ((("a", ()),),), (((), "a"),), ("ab",), (("a", ()), None), (None, ("a", ()))]
        return wrong + odd_values() + [0, 1, nested((), 99), LRU, ("cache", LRU)]

    def test_wrong_programs(self):
        for value in self.wrong_programs():
            with self.subTest(value=repr(value)[:200]):
                self.assertIs(is_program(value), False)

    def test_a_program_that_is_changed_at_any_depth(self):
        # Strings may be names, and an empty tuple may stand for targets.
        values = [value for value in odd_values() if not isinstance(value, (str, tuple))] + ["", "Cache", ("a",)]
        for value in changed_by(LOOP, values):
            with self.subTest(value=repr(value)):
                self.assertIs(is_program(value), False)

    def test_wrong_input_of_all_functions(self):
        wrong = {
            "device": values_told(InvalidDevice, odd_values() + [0, LRU, *list(wrong_devices())[::9]]),
            "program": values_told(InvalidProgram, self.wrong_programs()),
            "length": values_told(InvalidCount, WRONG_LENGTHS + odd_values()),
        }
        for function in (verdicts, most_misses, worst_rate):
            check_parameters(self, function, ("device", "program"), (("cache", LRU), LOOP), wrong)
        check_parameters(self, each_path, ("program", "length"), (LOOP, 3), wrong)


class VerdictsTest(unittest.TestCase):

    def test_by_hand(self):
        device = ("cache", lru(2))
        self.assertEqual(verdicts(device, (("a", ()),)), ("miss",))
        self.assertEqual(verdicts(device, (("a", (0,)),)), ("both",))
        self.assertEqual(verdicts(device, (("a", (1,)), ("a", (1,)))), ("miss", "hit"))
        self.assertEqual(verdicts(device, line("abab")), ("miss", "miss", "hit", "hit"))
        self.assertEqual(verdicts(device, line("abcab")), ("miss",) * 5)
        self.assertEqual(verdicts(("cache", lru(3)), line("abcab")), ("miss", "miss", "miss", "hit", "hit"))
        self.assertEqual(verdicts(device, (("a", ()), ("b", (0,)))), ("miss", "never"))
        self.assertEqual(verdicts(device, (("a", (2,)), ("b", (0,)), ("c", ()))), ("miss", "never", "miss"))
        self.assertEqual(verdicts(device=device, program=LOOP), ("both", "both", "miss"))
        # Whether b is there depends on the way.
        self.assertEqual(verdicts(device, (("a", (1, 2)), ("b", (2,)), ("b", ()))), ("miss", "miss", "both"))

    def test_a_place_without_targets_ends_the_path(self):
        program = (("a", (1, 2)), ("b", ()), ("a", ()))
        self.assertEqual(verdicts(("cache", ONE), program), ("miss", "miss", "hit"))

    def test_against_the_moments_of_all_paths(self):
        chance = random.Random(11)
        for mode in MODES:
            for _ in range(40):
                device = random_device(chance, mode, most_lines=3, most_states=3)
                program = random_program(chance, 6, 4, 2)
                found = reference.moments_of(device, program)
                if len(found) <= 600:
                    self.assertEqual(verdicts(device, program), self.expected(program, found))

    def expected(self, program, found):
        words = {(): "never", (True,): "hit", (False,): "miss", (False, True): "both"}
        return tuple(
            words[tuple(sorted({answer for moment, (answer, behind) in found.items() if moment[0] == place}))]
            for place in range(len(program)))

    def test_against_paths_that_are_gone_through(self):
        chance = random.Random(12)
        for mode in MODES:
            for _ in range(15):
                device, program = random_device(chance, mode, 2, 2), random_program(chance, 4, 3, 2)
                told = verdicts(device, program)
                seen = [set() for _ in program]
                for length in range(1, 11):
                    for path in paths_of(program, length)[:400]:
                        names = tuple([program[place][0] for place in path])
                        seen[path[-1]].add(reference.answers(device, names)[-1])
                for word, answers in zip(told, seen):
                    allowed = {"hit": {True}, "miss": {False}, "both": {True, False}, "never": set()}[word]
                    self.assertLessEqual(answers, allowed)
                    self.assertEqual(bool(answers), word != "never")


class MissesTest(unittest.TestCase):

    def test_by_hand(self):
        device = ("cache", lru(2))
        self.assertEqual(most_misses(device, (("a", ()),)), 1)
        self.assertEqual(most_misses(device, (("a", (0,)),)), 1)
        self.assertEqual(most_misses(device, line("abcab")), 5)
        self.assertEqual(most_misses(device, line("ababab")), 2)
        self.assertEqual(most_misses(("cache", lru(3)), LOOP), 3)
        self.assertIsNone(most_misses(device, LOOP))
        self.assertEqual(most_misses(device=device, program=ring(2, 2)), 2)
        self.assertEqual(most_misses(("cache", ONE), ring(3)), 1)
        # The way with more requests has fewer misses.
        self.assertEqual(most_misses(device, (("a", (1, 3)), ("a", (2,)), ("a", ()), ("b", (4,)), ("c", ()))), 3)
        # A circle with misses to which no path comes does not count.
        self.assertEqual(most_misses(("cache", ONE), (("a", ()), ("b", (2,)), ("c", (1,)))), 1)
        self.assertIsNone(most_misses(("cache", ONE), (("a", (1,)), ("b", (2,)), ("c", (1,)))))

    def test_the_last_request_counts(self):
        self.assertEqual(most_misses(("cache", ONE), (("a", (1,)), ("b", ()))), 2)
        self.assertEqual(most_misses(("cache", ONE), (("a", (1, 2)), ("b", ()), ("a", ()))), 2)

    def test_worst_rate_by_hand(self):
        device = ("cache", lru(2))
        self.assertEqual(worst_rate(device, (("a", ()),)), (0, 1))
        self.assertEqual(worst_rate(device, (("a", (0,)),)), (0, 1))
        self.assertEqual(worst_rate(device, line("abcabc")), (0, 1))
        self.assertEqual(worst_rate(device, LOOP), (1, 1))
        self.assertEqual(worst_rate(device=device, program=ring(3, 3)), (1, 1))
        self.assertEqual(worst_rate(("cache", lru(3)), ring(3, 3)), (0, 1))
        self.assertEqual(worst_rate(("cache", mru(2)), ring(3, 3)), (1, 2))
        self.assertEqual(worst_rate(("cache", mru(3)), ring(4, 4)), (1, 3))
        self.assertEqual(worst_rate(("cache", ONE), (("a", (1,)), ("a", (2,)), ("b", (3,)), ("b", (0,)))), (1, 2))
        self.assertEqual(worst_rate(("cache", ONE), (("a", (1,)), ("a", (2,)), ("b", (3,)), ("a", (4,)), ("a", (0,)))), (2, 5))
        # Two circles with other rates: the greater one counts.
        program = (("a", (1,)), ("a", (2, 4)), ("a", (3,)), ("b", (0,)), ("b", (0,)))
        self.assertEqual(worst_rate(("cache", ONE), program), (2, 3))
        self.assertEqual(worst_rate(("cache", ONE), (("a", ()), ("b", (2,)), ("c", (1,)))), (0, 1))
        # A circle of 24 requests with 16 misses.
        self.assertEqual(worst_rate(("cache", ONE), ring(24, 1)[:8] + tuple(
            [("abcdefgh"[place % 8], ((place + 1) % 24,)) for place in range(8, 24)])), (2, 3))

    def test_against_the_moments_of_all_paths(self):
        chance = random.Random(13)
        seen = set()
        for mode in MODES:
            for number in range(80):
                device = random_device(chance, mode, most_lines=3, most_states=2)
                program = random_program(chance, 6, 4, 2) if number % 2 else random_ring(chance, 4)
                found = reference.moments_of(device, program)
                if len(found) <= 80:
                    rate = greatest_mean(found)
                    self.assertEqual(worst_rate(device, program), (rate.numerator, rate.denominator))
                    self.check_most(device, program, rate, len(found))
                    seen.add(rate)
        self.assertGreater(len(seen), 5)

    def check_most(self, device, program, rate, many):
        """Check the greatest number of misses, by the walks of each length through the moments."""
        told = most_misses(device, program)
        self.assertEqual(told is None, rate > 0)
        if told is None:
            return
        row = {moment: 0 for moment in [(0, *reference.Machine(device).place())]}
        found = reference.moments_of(device, program)
        best = 0
        for _ in range(many + 1):
            best = max([best] + [count + (not found[moment][0]) for moment, count in row.items()])
            later = {}
            for moment, count in row.items():
                for behind in found[moment][1]:
                    count_behind = count + (not found[moment][0])
                    later[behind] = max(later.get(behind, 0), count_behind)
            row = later
        self.assertEqual(told, best)

    def test_against_paths_that_are_gone_through(self):
        chance = random.Random(14)
        for mode in MODES:
            for _ in range(25):
                device, program = random_device(chance, mode, 2, 2), random_program(chance, 4, 3, 2)
                counts = []
                for length in range(1, 10):
                    for path in paths_of(program, length):
                        counts.append(reference.misses(device, tuple([program[place][0] for place in path])))
                told = most_misses(device, program)
                if told is not None:
                    self.assertLessEqual(max(counts), told)
                if not paths_of(program, 9):
                    self.assertEqual(max(counts), told)


class MomentsTest(unittest.TestCase):

    def test_600_moments(self):
        device, program = PROGRAM_600
        self.assertEqual(len(reference.moments_of(device, program)), 600)
        self.assertEqual(verdicts(device, program), ("miss",) * 27)
        self.assertIsNone(most_misses(device, program))
        self.assertEqual(worst_rate(device, program), (1, 1))

    def test_601_moments(self):
        device, program = PROGRAM_601
        self.assertEqual(len(reference.moments_of(device, program)), 601)
        for function in (verdicts, most_misses, worst_rate):
            check_refused(self, TooManySituations, {"limit": 600}, function, device, program)
            check_refused(self, TooManySituations, {"limit": 600}, function, program=program, device=device)
            check_refused(self, InvalidProgram, {"value": list(program)[:0] or ()}, function, device, ())

    def test_moments_are_counted_on_paths_alone(self):
        device, program = PROGRAM_601
        # Here the 601 moments cannot be reached, as the first place has no targets.
        self.assertEqual(verdicts(device, (("a", ()),) + program[1:]), ("miss",) + ("never",) * 23)


class EachPathTest(unittest.TestCase):

    def check(self, program, length):
        found = list(each_path(program, length))
        self.assertEqual(found, paths_of(program, length))
        self.assertEqual(found, sorted(set(found)))
        self.assertEqual(list(each_path(length=length, program=program)), found)
        self.assertTrue(all(isinstance(path, tuple) and len(path) == length for path in found))

    def test_by_hand(self):
        self.assertEqual(list(each_path(LOOP, 1)), [(0,)])
        self.assertEqual(list(each_path(LOOP, 2)), [(0, 1)])
        self.assertEqual(list(each_path(LOOP, 3)), [(0, 1, 0), (0, 1, 2)])
        self.assertEqual(list(each_path(LOOP, 4)), [(0, 1, 0, 1), (0, 1, 2, 0)])
        self.assertEqual(list(each_path((("a", ()),), 1)), [(0,)])
        self.assertEqual(list(each_path((("a", ()),), 2)), [])
        self.assertEqual(list(each_path((("a", ()),), 12)), [])
        self.assertEqual(list(each_path((("a", (0,)),), 12)), [(0,) * 12])
        self.assertEqual(list(each_path((("a", (1,)), ("a", ())), 3)), [])

    def test_against_all_tuples_of_indexes(self):
        chance = random.Random(15)
        for _ in range(60):
            program = random_program(chance, 5, 3, 3)
            for length in (1, 2, 3, 4, 5, 6):
                self.check(program, length)

    def test_the_greatest_lengths(self):
        for program in (LOOP, ring(5), line("abcdefgh"), (("a", (0, 1)), ("b", (0, 1)))):
            for length in (7, 8, 9, 11, 12):
                self.check(program, length)
        self.assertEqual(len(list(each_path((("a", (0, 1)), ("b", (0, 1))), 12))), 2 ** 11)

    def test_many_paths_are_begun_at_once(self):
        program = (("a", tuple(range(30))),) * 30
        self.assertEqual(next(iter(each_path(program, 12))), (0,) * 12)
        self.assertEqual(list(itertools.islice(each_path(program, 12), 31))[29:], [(0,) * 11 + (29,), (0,) * 10 + (1, 0)])
        # Ten steps on there are no targets, whatever way is taken.
        dead = tuple([
            ("a", tuple(range(place // 3 * 3 + 3, place // 3 * 3 + 6)) if place < 27 else ()) for place in range(30)])
        self.assertEqual(list(each_path(dead, 12)), [])
        self.assertEqual(next(iter(each_path(dead, 10))), (0, 3, 6, 9, 12, 15, 18, 21, 24, 27))

    def test_iterations_go_on_by_themselves(self):
        first = each_path(LOOP, 5)
        self.assertEqual(next(first), (0, 1, 0, 1, 0))
        second = each_path(LOOP, 5)
        self.assertEqual(list(second), paths_of(LOOP, 5))
        self.assertEqual(list(first), paths_of(LOOP, 5)[1:])
        self.assertEqual([inner for _ in each_path(LOOP, 3) for inner in each_path(LOOP, 3)], paths_of(LOOP, 3) * 2)

    def test_errors_come_when_the_iteration_begins(self):
        for args, error in (((LOOP, 0), InvalidCount), (((), 1), InvalidProgram), ((LOOP, True), InvalidCount)):
            begun = each_path(*args)
            self.assertRaises(error, next, begun)


class SameAgainTest(unittest.TestCase):

    def test_arguments_are_not_modified_and_results_are_the_same_again(self):
        for device in small_devices() + [("cache", fifo(2))]:
            before = copy.deepcopy((device, LOOP))
            for function in (verdicts, most_misses, worst_rate):
                self.assertEqual(function(device, LOOP), function(device, LOOP))
            self.assertEqual((device, LOOP), before)
        self.assertEqual((is_program(LOOP), is_program(list(LOOP))), (True, False))


class ExampleTest(unittest.TestCase):

    def test_examples_of_the_document(self):
        run_example(self, """
>>> from missbounds.catalog import lru
>>> from missbounds.programs import each_path, most_misses, verdicts, worst_rate
>>> program = (("a", (1,)), ("b", (0, 2)), ("c", (0,)))
>>> first = [verdicts(("cache", lru(2)), program), verdicts(("cache", lru(3)), program), list(each_path(program, 4))]
>>> first + [most_misses(("cache", lru(3)), program), most_misses(("cache", lru(2)), program), worst_rate(("cache", lru(2)), program)]
[('both', 'both', 'miss'), ('both', 'both', 'both'), [(0, 1, 0, 1), (0, 1, 2, 0)], 3, None, (1, 1)]
""")


if __name__ == "__main__":
    unittest.main()
