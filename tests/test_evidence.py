import copy
import random
import unittest

import keepings
from helper import nested, odd_values, put, run_example
from missbounds.bounds import bound, first_outside
from missbounds.catalog import fifo, lru, mru, named
from missbounds.checker import accepts
from missbounds.errors import (
    InvalidCount, InvalidDevice, InvalidHistory, InvalidLines, InvalidPlace, InvalidPolicy, InvalidProgram,
    TooManyRequests, TooManySituations,
)
from missbounds.evidence import (
    alike_evidence, forgets_evidence, inside_evidence, least_evidence, misses_evidence, path_evidence, reached_evidence,
    remembers_evidence, verdict_evidence, within_evidence,
)
from missbounds.forgetting import forgets, longest_memory
from missbounds.optimum import least_misses
from missbounds.plains import are_alike, difference
from missbounds.policies import is_device
from missbounds.programs import most_misses, verdicts
from refused import check_parameters, check_refused, indexes_told, values_told
from samples import (
    LRU, ONE, PAIR_600, PAIR_601, PROGRAM_600, PROGRAM_601, THREE, random_device, random_history, random_policy, right_policies,
    wrong_devices, wrong_histories, wrong_policies,
)
from truths import is_claim, is_true

MODES = ("cache", "plain", "inclusive", "victim")
PAIRS = (within_evidence, reached_evidence, alike_evidence, inside_evidence)
DOUBLE = ("cache", lru(2))
SINGLE = ("cache", lru(1))
LOOP = (("a", (0, 1)), ("b", ()))
ROUND = (("a", (1,)), ("b", (0,)), ("c", ()))


class EvidenceTest(unittest.TestCase):

    def check(self, told, claim):
        """Check that evidence is for a claim, and that the checker accepts it."""
        self.assertIs(told.__class__, tuple)
        self.assertEqual(len(told), 2)
        self.assertEqual(told[0], claim)
        self.assertEqual([part.__class__ for part in told[0]], [part.__class__ for part in claim])
        self.assertTrue(is_claim(claim))
        self.assertIs(accepts(*told), True, claim)

    def check_pair(self, one, other, names):
        """Check all evidence over two devices against the functions that answer the questions. Return the words."""
        least = bound(one, other, names=names)
        told = within_evidence(one, other, names=names)
        reached = reached_evidence(one, other, names=names)
        if least is None:
            self.assertIsNone(told)
            self.check(reached, ("endless", one, other, names))
        else:
            self.check(told, ("within", one, other, names, *least))
            self.check(reached, ("reached", one, other, names, *least))
        alike = alike_evidence(one, other, names=names)
        steps = difference(one, other, names=names)
        if steps is None:
            self.check(alike, ("alike", one, other, names))
        else:
            self.check(alike, ("differ", one, other, names))
            self.assertEqual(alike[1], steps)
        inside = inside_evidence(one, other, names=names)
        steps = first_outside(one, other, names=names)
        if steps is None:
            self.check(inside, ("inside", one, other, names))
        else:
            self.check(inside, ("outside", one, other, names))
            self.assertEqual(inside[1], steps)
        return [reached[0][0], alike[0][0], inside[0][0]] + ["within"] * (told is not None)

    def check_program(self, device, program):
        """Check all evidence over a program. Return the words."""
        most = most_misses(device, program)
        told = misses_evidence(device, program)
        path = path_evidence(device, program)
        if most is None:
            self.assertIsNone(path)
            self.check(told, ("no most", device, program))
        else:
            self.check(told, ("at most", device, program, most))
            self.check(path, ("so many", device, program, most))
        words = [told[0][0]] + ["so many"] * (path is not None)
        for place, word in enumerate(verdicts(device, program)):
            for answer in (True, False):
                told = verdict_evidence(device, program, place, answer)
                always = word in ("never", "hit" if answer else "miss")
                self.check(told, ("always", device, program, place, answer) if always else (
                    "sometimes", device, program, place, not answer))
                words.append(told[0][0])
        return words

    def check_memory(self, policy):
        many = forgets(policy)
        told = forgets_evidence(policy)
        remembered = remembers_evidence(policy)
        if many is None:
            self.check(told, ("never forgets", policy))
            self.assertIsNone(remembered)
        else:
            self.check(told, ("forgets", policy, many))
            self.check(remembered, ("remembers", policy, many - 1))
            self.assertEqual(len(remembered[1][1]), len(longest_memory(policy)[1]))
        return told[0][0]


class PairTest(EvidenceTest):

    def test_devices_of_all_modes(self):
        chance = random.Random(1)
        words = []
        for one_mode in MODES:
            for other_mode in MODES:
                for _ in range(6):
                    one, other = random_device(chance, one_mode, 2, 3), random_device(chance, other_mode, 2, 3)
                    for names in (None, 1, 2, chance.randint(3, 12)):
                        try:
                            words += self.check_pair(one, other, names)
                        except TooManySituations:
                            words.append("many")
        for word in ("within", "reached", "endless", "alike", "differ", "inside", "outside"):
            self.assertGreater(words.count(word), 20, word)

    def test_numbers_of_names(self):
        for names in (None, *range(1, 13)):
            self.check_pair(DOUBLE, ("cache", fifo(2)), names)
            self.check_pair(SINGLE, DOUBLE, names)
            self.check_pair(("victim", lru(1), fifo(1)), ("inclusive", lru(1), lru(2)), names)
        for names in (None, 1, 12):
            for function in PAIRS:
                self.assertEqual(function(DOUBLE, SINGLE, names=names)[0][3], names)

    def test_the_catalog(self):
        for one, other in (("lru", "fifo"), ("clock", "lru"), ("mru", "lifo"), ("bits", "lru"), ("plru", "plru")):
            for lines in (1, 2):
                self.check_pair(("cache", named(one, lines)), ("cache", named(other, 2)), None)
        self.check_pair(("cache", lru(3)), ("cache", lru(2)), None)
        self.check_pair(("cache", fifo(3)), ("cache", mru(2)), None)

    def test_excesses_that_are_no_integers(self):
        one = ("cache", (2, ((1, 1, (0, 1)), (0, 0, (1, 1)))))
        other = ("cache", (2, ((1, 1, (0, 0)), (0, 1, (0, 1)))))
        self.check_pair(one, other, None)
        self.assertEqual(within_evidence(one, other)[0][4:], ((11, 7), (1, 7)))
        self.assertEqual(reached_evidence(one, other)[0][4:], ((11, 7), (1, 7)))

    def test_ratio_0(self):
        told = reached_evidence(SINGLE, DOUBLE, names=1)
        self.assertEqual(told[0], ("reached", SINGLE, DOUBLE, 1, (0, 1), (1, 1)))
        self.assertEqual(told[1][:2], ((), ()))

    def test_it_is_no_evidence_for_other_claims(self):
        claim, evidence = within_evidence(DOUBLE, ("cache", fifo(2)))
        self.assertIs(accepts(put(claim, (4,), (1, 1)), evidence), False)
        for function in PAIRS[:2] + PAIRS[3:]:
            claim, evidence = function(DOUBLE, SINGLE)
            self.assertIs(accepts(claim, evidence), True)
            exchanged = (claim[0], claim[2], claim[1], *claim[3:])
            # In this order there is no bound, and the single cache is never outside.
            self.assertIs(accepts(exchanged, evidence), claim[0] == "reached")
        claim, evidence = alike_evidence(DOUBLE, DOUBLE, names=1)
        self.assertIs(accepts(claim, evidence), True)
        for allowed in (2, 3, None):
            self.assertIs(accepts(put(claim, (3,), allowed), evidence), False)
        claim, evidence = alike_evidence(DOUBLE, DOUBLE)
        for allowed in (1, 2, 12):
            self.assertIs(accepts(put(claim, (3,), allowed), evidence), True)
        for function in PAIRS:
            claim, evidence = function(DOUBLE, SINGLE, names=2)
            self.assertIs(accepts(put(claim, (3,), 13), evidence), False)

    def test_600_and_601_situations(self):
        self.check_pair(*PAIR_600, None)
        for function in PAIRS:
            check_refused(self, TooManySituations, {"limit": 600}, function, *PAIR_601)
            check_refused(self, TooManySituations, {"limit": 600}, function, *PAIR_601[::-1], names=12)
            # After all others.
            check_refused(self, InvalidCount, {"value": 13}, function, *PAIR_601, names=13)
        self.assertEqual(len(within_evidence(*PAIR_600)[1]), 600)

    def test_too_many_situations_though_there_is_a_difference(self):
        one, other = ("victim", lru(3), fifo(3)), ("plain", mru(3), lru(4))
        for function in PAIRS:
            check_refused(self, TooManySituations, {"limit": 600}, function, one, other)

    def test_wrong_inputs(self):
        devices = values_told(InvalidDevice, [LRU, *wrong_devices(), *odd_values()])
        counts = [value for value in odd_values() if value is not None] + [0, 13, 10 ** 39, "1", (1,), nested((), 99)]
        wrong = {"one": devices, "other": devices, "names": values_told(InvalidCount, counts)}
        for function in PAIRS:
            check_parameters(self, function, ("one", "other", "names"), (SINGLE, DOUBLE, 2), wrong, ("names",))
            with self.assertRaises(TypeError):
                function(SINGLE, DOUBLE, 2)


class MemoryTest(EvidenceTest):

    def test_random_policies(self):
        chance = random.Random(2)
        words = []
        for lines in (1, 2, 3, 4):
            for states in (1, 2, 3, 5, 8):
                for _ in range(15):
                    words.append(self.check_memory(random_policy(chance, lines, states)))
        self.assertGreater(words.count("forgets"), 50)
        self.assertGreater(words.count("never forgets"), 50)

    def test_of_the_catalog(self):
        for title in ("lru", "mru", "fifo", "lifo", "clock", "bits", "plru"):
            for lines in (1, 2, 3, 4):
                if (title, lines) != ("plru", 3):
                    self.check_memory(named(title, lines))
        self.assertEqual(forgets_evidence(fifo(3))[0][2], 5)
        self.assertEqual(remembers_evidence(policy=fifo(3))[0][2], 4)
        self.assertIsNone(remembers_evidence(mru(2)))

    def test_great_policies(self):
        for policy in right_policies():
            self.check_memory(policy)

    def test_wrong_inputs(self):
        wrong = {"policy": values_told(InvalidPolicy, [("cache", LRU), *wrong_policies(), *odd_values()])}
        for function in (forgets_evidence, remembers_evidence):
            check_parameters(self, function, ("policy",), (LRU,), wrong)


class ProgramTest(EvidenceTest):

    def random_program(self, chance, most=5):
        many = chance.randint(1, most)
        return tuple([
            (chance.choice("abcd"), tuple(sorted(chance.sample(range(many), chance.randint(0, min(many, 3))))))
            for _ in range(many)])

    def test_devices_of_all_modes(self):
        chance = random.Random(3)
        words = []
        for mode in MODES:
            for _ in range(60):
                words += self.check_program(random_device(chance, mode, 3, 3), self.random_program(chance))
        for word in ("at most", "no most", "so many", "always", "sometimes"):
            self.assertGreater(words.count(word), 30, word)

    def test_by_hand(self):
        self.assertEqual(misses_evidence(DOUBLE, LOOP)[0], ("at most", DOUBLE, LOOP, 2))
        self.assertEqual(misses_evidence(SINGLE, ROUND)[0], ("no most", SINGLE, ROUND))
        self.assertIsNone(path_evidence(SINGLE, ROUND))
        self.assertEqual(verdict_evidence(DOUBLE, LOOP, 1, True)[0], ("sometimes", DOUBLE, LOOP, 1, False))
        self.assertEqual(verdict_evidence(DOUBLE, LOOP, 1, False)[0], ("always", DOUBLE, LOOP, 1, False))
        # No path comes to the last place of the round.
        for answer in (True, False):
            self.assertEqual(verdict_evidence(DOUBLE, ROUND, 2, answer)[0], ("always", DOUBLE, ROUND, 2, answer))
        # A path with hits alone behind the first place, and one with a single place.
        self.check_program(DOUBLE, (("a", (0,)),))
        self.check_program(DOUBLE, (("a", ()),))
        self.check_program(SINGLE, (("a", (1,)), ("a", (2,)), ("b", (2,))))

    def test_600_and_601_moments(self):
        self.check_program(*PROGRAM_600)
        for function in (misses_evidence, path_evidence):
            check_refused(self, TooManySituations, {"limit": 600}, function, *PROGRAM_601)
        for place, answer in ((0, True), (23, False)):
            check_refused(self, TooManySituations, {"limit": 600}, verdict_evidence, *PROGRAM_601, place, answer)
        # After all others.
        check_refused(self, InvalidPlace, {"value": 24}, verdict_evidence, *PROGRAM_601, 24, True)

    def test_wrong_inputs(self):
        programs = [(), (("a", (1,)),), [("a", ())], (("A", ()),), (("a", (0, 0)),), (("a", ()),) * 31, *odd_values()]
        places = [place for place in odd_values()] + [2, 30, 10 ** 39, "0", (0,), nested((), 99)]
        wrong = {
            "device": values_told(InvalidDevice, [LRU, *wrong_devices(), *odd_values()]),
            "program": values_told(InvalidProgram, [(("a", (1,)),), *programs]),
            "place": values_told(InvalidPlace, [2, *places]),
        }
        names = ("device", "program", "place", "answer")
        check_parameters(self, verdict_evidence, names, (DOUBLE, LOOP, 1, True), wrong)
        del wrong["place"]
        for function in (misses_evidence, path_evidence):
            check_parameters(self, function, ("device", "program"), (DOUBLE, LOOP), wrong)


class LeastTest(EvidenceTest):

    def test_least(self):
        chance = random.Random(4)
        for _ in range(80):
            names = random_history(chance, "abcdef", chance.choice((0, 1, 5, 20, 60, 200)))
            lines = chance.randint(1, 4)
            told = least_evidence(names, lines)
            self.check(told, ("least", names, lines, least_misses(names, lines)))
            self.assertIs(keepings.is_allowed(names, lines, told[1][0]), True)
            self.assertEqual(least_evidence(names=names, lines=lines), told)

    def test_200_and_201_requests(self):
        names = ("a", "b", "c") * 66 + ("a", "b")
        self.check(least_evidence(names, 2), ("least", names, 2, least_misses(names, 2)))
        check_refused(self, TooManyRequests, {"limit": 200}, least_evidence, names + ("a",), 2)
        check_refused(self, InvalidLines, {"value": 5}, least_evidence, names + ("a",), 5)

    def test_wrong_inputs(self):
        wrong = {
            "names": indexes_told(InvalidHistory, [(["a"], None), *wrong_histories()]),
            "lines": values_told(InvalidLines, [0, 5, "2", (2,), *odd_values()]),
        }
        check_parameters(self, least_evidence, ("names", "lines"), (("a", "b", "a"), 2), wrong)


class AllTest(EvidenceTest):

    def test_what_is_accepted_holds_in_short_histories(self):
        chance = random.Random(5)
        judged = []
        for _ in range(40):
            one = random_device(chance, chance.choice(MODES), 2, 2)
            other = random_device(chance, chance.choice(MODES), 2, 2)
            names = chance.choice((None, 1, 2, 3))
            for function in PAIRS:
                try:
                    told = function(one, other, names=names)
                except TooManySituations:
                    continue
                if told is not None and (told[0][0] != "endless"):
                    self.assertTrue(is_true(told[0], 4), told)
                    judged.append(told[0][0])
            policy = random_policy(chance, chance.randint(1, 3), chance.randint(1, 3))
            for told in (forgets_evidence(policy), remembers_evidence(policy)):
                if told is not None:
                    self.assertTrue(is_true(told[0]), told)
                    judged.append(told[0][0])
            names = random_history(chance, "abc", 6)
            self.assertTrue(is_true(least_evidence(names, chance.randint(1, 3))[0]))
        self.assertGreaterEqual(len(set(judged)), 8)

    def test_the_same_again_and_nothing_modified(self):
        one, other, program = ("victim", ONE, THREE), DOUBLE, LOOP
        before = copy.deepcopy((one, other, program))
        for function in PAIRS:
            self.assertEqual(function(one, other), function(one=copy.deepcopy(one), other=copy.deepcopy(other), names=None))
        self.assertEqual(misses_evidence(one, program), misses_evidence(device=one, program=copy.deepcopy(program)))
        self.assertEqual(path_evidence(one, program), path_evidence(device=one, program=program))
        self.assertEqual(
            verdict_evidence(one, program, 0, True), verdict_evidence(device=one, program=program, place=0, answer=True))
        self.assertEqual(forgets_evidence(LRU), forgets_evidence(policy=copy.deepcopy(LRU)))
        self.assertEqual((one, other, program), before)
        self.assertTrue(is_device(one))
        self.assertTrue(are_alike(one, one))

    def test_example(self):
        run_example(self, '''
            >>> from missbounds.catalog import fifo, lru
            >>> from missbounds.checker import accepts
            >>> from missbounds.evidence import alike_evidence, reached_evidence, within_evidence
            >>> one, other = ("cache", lru(2)), ("cache", fifo(2))
            >>> claim, evidence = within_evidence(one, other)
            >>> [claim[3:], accepts(claim, evidence), reached_evidence(("cache", lru(1)), one)[0][0], alike_evidence(one, other)[1]]
            [(None, (2, 1), (0, 1)), True, 'endless', (0, 1, 0, 2, 0)]
        ''')


if __name__ == "__main__":
    unittest.main()
