"""The claims of the checker over two devices, and each thing that is said about them broken by itself."""

import itertools
import random
import unittest

import reference
from claims import BEGIN, DOUBLE, EVEN, FIRST, FULL, ODD, RIGHT, SINGLE, START, ClaimTest
from helper import put
from missbounds.catalog import fifo, lru
from missbounds.checker import accepts
from samples import LRU, ONE, hit_counter, miss_counter, random_device
from truths import is_true

MODES = ("cache", "plain", "inclusive", "victim")
LATE = ("cache", lru(2))
EARLY = ("cache", fifo(2))
WORDS = ("within", "reached", "endless", "alike", "differ", "inside", "outside")


class PairTest(ClaimTest):

    def check_set(self, word, worth=None):
        """Check what is said of the situations of the evidence for a word, alone or with a fraction each."""
        claim, evidence = RIGHT[word]
        for order in itertools.permutations(evidence):
            self.accepted(claim, order)
        for index, part in enumerate(evidence):
            self.rejected(claim, evidence[:index] + evidence[index + 1:])
            for other in range(len(evidence) + 1):
                self.rejected(claim, evidence[:other] + (part,) + evidence[other:])
        self.rejected(claim, (), evidence[1:], (evidence,), evidence[0])

        def with_situation(situation):
            return evidence + (situation if worth is None else (situation, worth),)

        states, contents = (evidence[1] if worth is None else evidence[1][0])
        for wrong in (
                (states, contents, 0), (states,), (contents, states), (states + (0,), contents), (states[:1], contents),
                (states, contents + (None,)), (states, contents[:-1]), ((2,) + states[1:], contents),
                ((-1,) + states[1:], contents), ((True,) + states[1:], contents), ((None,) + states[1:], contents),
                (states, (1,) * len(contents)), (states, (2,) + contents[1:]), (states, (-1,) + contents[1:]),
                (states, (True,) + contents[1:]), (states, ("a",) + contents[1:]), (states, ((),) + contents[1:]),
                (states, tuple([None if number is None else number + 1 for number in contents])), states, contents, (), None, 0):
            self.rejected(claim, with_situation(wrong))


class WithinTest(PairTest):

    def test_situations(self):
        self.check_set("within", (0, 1))

    def test_fractions(self):
        claim, evidence = RIGHT["within"]
        # All fractions more: then the beginning has more than the excess.
        for more in ((1, 1), (1, 2), (7, 3), (10 ** 39, 1)):
            raised = tuple([(situation, more) for situation, worth in evidence])
            self.rejected(claim, raised)
            self.accepted(put(claim, (5,), more), raised)
            self.accepted(put(claim, (5,), (10 ** 39 + 1, 1)), raised)
            self.rejected(put(claim, (5,), (more[0], more[1] + 10 ** 20)), raised)
        # One more than the others, so that the step from one that leads to it is not covered.
        for index in range(len(evidence)):
            self.rejected(claim, put(evidence, (index, 1), (1, 10 ** 39)))
        for wrong in ((0, 2), (2, 2), (0, 0), (1, 0), (-1, 1), (0, -1), (0,), (0, 1, 1), 0, 1, None, "0", (True, 1), (0, True), ()):
            for index in range(len(evidence)):
                self.rejected(claim, put(evidence, (index, 1), wrong))
            self.rejected(put(claim, (4,), wrong), evidence)
            self.rejected(put(claim, (5,), wrong), evidence)

    def test_names_twice_and_numbers_left_out(self):
        # The steps from these lead to situations that are there, so only the form speaks against them.
        claim, evidence = RIGHT["within"]
        for contents in ((0, 0, 0), (0, 0, 2), (0, 2, 0), (0, 2, 2), (1, 0, 1), (1, 0, 0), (0, 0, 1)):
            for states in ((0, 0), (1, 0)):
                self.rejected(claim, evidence + (((states, contents), (9, 1)),))
        claim, evidence = RIGHT["inside"]
        for contents in ((0, 0, 0), (0, 0, 2), (0, 2, 0), (2, 2, 0), (1, 0, 1), (1, 1, 0)):
            for states in ((0, 0), (0, 1)):
                self.rejected(claim, evidence + ((states, contents),))

    def test_pairs(self):
        claim, evidence = RIGHT["within"]
        for index, (situation, worth) in enumerate(evidence):
            for wrong in ((situation,), (situation, worth, worth), (worth, situation), situation, [situation, worth], worth):
                self.rejected(claim, put(evidence, (index,), wrong))
            # No situation twice, not even with another fraction.
            self.rejected(claim, evidence + ((situation, (1, 1)),), ((situation, (1, 1)),) + evidence)

    def test_less_ratios_and_excesses(self):
        claim, evidence = RIGHT["within"]
        for ratio in ((0, 1), (1, 2), (99, 100), (10 ** 39 - 1, 10 ** 39)):
            self.rejected(put(claim, (4,), ratio), evidence)
        for ratio in ((1, 1), (2, 1), (3, 2), (10 ** 39 + 1, 10 ** 39)):
            self.accepted(put(claim, (4,), ratio), evidence)
        for excess in ((0, 1), (1, 2), (5, 1), (1, 10 ** 39)):
            self.accepted(put(claim, (5,), excess), evidence)

    def test_counts_with_ratios_that_are_no_integers(self):
        # With one name there is one miss, of which half is left.
        claim = ("within", SINGLE, SINGLE, 1, (1, 2), (1, 2))
        self.accepted(claim, ((BEGIN, (1, 2)), (FULL, (0, 1))))
        self.rejected(claim, ((BEGIN, (1, 3)), (FULL, (0, 1))), ((BEGIN, (499, 1000)), (FULL, (0, 1))))
        self.rejected(claim, ((BEGIN, (1, 2)), (FULL, (1, 1000))), ((BEGIN, (501, 1000)), (FULL, (0, 1))))
        self.accepted(put(claim, (5,), (501, 1000)), ((BEGIN, (501, 1000)), (FULL, (1, 1000))))
        self.rejected(put(claim, (4,), (0, 1)), ((BEGIN, (1, 2)), (FULL, (0, 1))))
        self.accepted(("within", SINGLE, SINGLE, 1, (0, 1), (1, 1)), ((BEGIN, (1, 1)), (FULL, (0, 1))))
        # With a second name the circle of misses is there.
        self.rejected(put(claim, (3,), 2), ((BEGIN, (1, 2)), (FULL, (0, 1))))

    def test_situations_that_are_not_reached_count_too(self):
        claim, evidence = RIGHT["within"]
        # No steps lead to these, but they are situations, and their steps lead to others that are not there.
        for other in (((1, 0), (None, 0, None)), ((1, 0), (None, 0, 0)), ((1, 0), (None, None, None))):
            self.rejected(claim, evidence + ((other, (0, 1)),), evidence + ((other, (9, 1)),))
        # The steps of this one do not, and they are covered if its fraction is not too great for nothing.
        empty = ((0, 0), (0, None, None))
        for worth in ((0, 1), (1, 2), (9, 1)):
            self.accepted(claim, evidence + ((empty, worth),))
        # Here the single cache hits and the double one misses, so 0 does not cover it.
        for worse in (((0, 0), (None, None, 0)), ((1, 0), (0, 1, 2)), ((0, 0), (0, 1, 2))):
            self.rejected(claim, evidence + ((worse, (0, 1)),), evidence + ((worse, (1, 2)),))
            self.accepted(claim, evidence + ((worse, (1, 1)),), evidence + ((worse, (3, 2)),))

    def test_names(self):
        claim, evidence = RIGHT["within"]
        for allowed in (2, 3, 12):
            self.accepted(put(claim, (3,), allowed), evidence)
        # With one name, half of the situations are enough, and all of them still do.
        self.accepted(put(claim, (3,), 1), evidence, evidence[:2])
        self.rejected(put(claim, (3,), 2), evidence[:2])
        for wrong in (0, 13, -1, True, False, "1", (1,), 10 ** 39):
            self.rejected(put(claim, (3,), wrong), evidence)

    def test_exchanged_devices(self):
        claim, evidence = RIGHT["within"]
        other = ("within", SINGLE, DOUBLE, None, (1, 1), (0, 1))
        self.rejected(other, evidence, tuple([(situation, (0, 1)) for situation in (START, FIRST, EVEN, ODD)]))
        self.rejected(put(other, (5,), (9, 1)), tuple([(situation, (9, 1)) for situation in (START, FIRST, EVEN, ODD)]))


class ReachedTest(PairTest):

    def test_steps(self):
        claim, evidence = RIGHT["reached"]
        self.accepted(claim, evidence, ((0, 1), (2,) * 4, ()), ((0, 1, 2), (2, 2), ()), ((0, 0, 0, 1), (2, 2), ()))
        self.accepted(claim, ((0, 1), (2, 2), (0,)), ((0, 1), (2, 2), (0, 1, 2, 2)))
        # A circle that does not close, or on which nothing is missed, or without steps.
        self.rejected(claim, ((0, 1), (2,), ()), ((0, 1), (0, 0), ()), ((0, 1), (), ()), ((), (), ()), ((), (0,), ()))
        # A circle that is not count 0: the single cache misses on it more often.
        self.rejected(claim, ((0, 1), (1, 1), ()))
        # A path with another count.
        self.rejected(claim, ((0, 1), (2, 2), (0, 1, 0)))

    def test_form(self):
        claim, (ahead, circle, path) = RIGHT["reached"]
        self.rejected(claim, (ahead, circle), (ahead, circle, path, path), (circle, ahead, path), (path, ahead, circle))
        for index in range(3):
            for wrong in (None, 0, "", [], {}, (None,), ("0",), ((0,),), (True,), (-1,), (3,), (0, 4)):
                self.rejected(claim, put((ahead, circle, path), (index,), wrong))

    def test_steps_that_are_not_allowed(self):
        claim, evidence = RIGHT["reached"]
        self.accepted(put(claim, (3,), 3), evidence)
        # Two names are held behind (0, 1), so with two of them no other one is allowed.
        self.rejected(put(claim, (3,), 2), evidence)
        self.rejected(put(claim, (3,), 1), evidence)
        self.accepted(("reached", SINGLE, SINGLE, 1, (0, 1), (1, 1)), ((), (), (0,)), ((), (), (0, 0, 0)))
        self.rejected(("reached", SINGLE, SINGLE, 1, (0, 1), (1, 1)), ((), (), (0, 1)))

    def test_ratio_0(self):
        claim = ("reached", SINGLE, DOUBLE, 1, (0, 1), (1, 1))
        self.accepted(claim, ((), (), (0,)), ((), (), (0, 0)))
        self.rejected(claim, ((), (), ()), ((0,), (), (0,)), ((), (0,), (0,)), ((0,), (0,), (0,)), (None, (), (0,)))
        self.rejected(claim, ([], (), (0,)), ((), [], (0,)), ((), "", (0,)), ((), None, (0,)), (0, 0, (0,)))
        self.rejected(put(claim, (5,), (0, 1)), ((), (), (0,)))
        self.accepted(put(claim, (5,), (0, 1)), ((), (), ()))
        # For all names the path may be longer, as a lesser excess is not enough then either.
        self.accepted(put(put(claim, (3,), None), (5,), (2, 1)), ((), (), (0, 1)))

    def test_other_ratios(self):
        claim, evidence = RIGHT["reached"]
        for ratio in ((2, 1), (1, 2), (3, 2), (99, 100), (0, 1)):
            self.rejected(put(claim, (4,), ratio), evidence)
        for wrong in ((2, 2), (1, 0), (-1, 1), (True, 1), 1, None, (1,), (1, 1, 1)):
            self.rejected(put(claim, (4,), wrong), evidence)
            self.rejected(put(claim, (5,), wrong), evidence)
        for excess in ((1, 1), (1, 2), (10 ** 39, 1)):
            self.rejected(put(claim, (5,), excess), evidence)

    def test_excess_above_0(self):
        one = ("cache", (2, ((0, 1, (1, 0)), (1, 0, (1, 1)))))
        other = ("cache", (2, ((0, 1, (0, 0)), (1, 2, (1, 0)), (1, 0, (0, 2)))))
        ahead, circle, path = (0, 1), (2, 2, 2, 2, 2, 2), (0, 1, 2, 2, 2, 2, 0, 2, 2)
        names = reference.followed(one, other, path)[0].asked
        # 2 times the misses of the first one are 3 times those of the other one and 1 more.
        self.assertEqual(2 * reference.misses(one, names), 3 * reference.misses(other, names) + 1)
        claim = ("reached", one, other, 3, (3, 2), (1, 2))
        self.accepted(claim, (ahead, circle, path), (ahead, circle * 3, path), (ahead + circle, circle, path))
        self.rejected(claim, (ahead, circle, path[:-1]), (ahead, circle, ()), (ahead, circle[:-1], path), (circle, ahead, path))
        for excess in ((0, 1), (1, 1), (1, 3), (2, 3), (1, 10 ** 39)):
            self.rejected(put(claim, (5,), excess), (ahead, circle, path))
        for ratio in ((1, 1), (2, 1), (4, 3), (5, 3)):
            self.rejected(put(claim, (4,), ratio), (ahead, circle, path))
        for allowed in (None, 4, 12):
            self.accepted(put(claim, (3,), allowed), (ahead, circle, path))
        self.rejected(put(claim, (3,), 2), (ahead, circle, path))

    def test_exchanged_devices(self):
        claim, evidence = RIGHT["reached"]
        # For this order no ratio has an excess, so what is said of lesser ones is true of each circle.
        self.accepted(("reached", SINGLE, DOUBLE, None, (1, 1), (0, 1)), evidence)
        self.rejected(("reached", SINGLE, DOUBLE, None, (1, 1), (0, 1)), ((0, 1), (1, 1), ()), ((0,), (0,), ()))


class EndlessTest(PairTest):

    def test_steps(self):
        claim, evidence = RIGHT["endless"]
        self.accepted(claim, ((0, 1), (1, 1)), ((0, 1), (1, 1, 1, 1)), ((0, 1, 1), (1, 1)), ((0, 1), (0, 1, 1)))
        # No circle, none that closes, none with a miss, one with misses of the other device.
        self.rejected(claim, ((0, 1), ()), ((), ()), ((0, 1), (1,)), ((0, 1), (0,)), ((0, 1), (2, 2)), ((0,), (1, 1)))
        self.rejected(claim, ((), (0, 1, 1, 1)), ((0, 1), (1, 1, 2, 2)))

    def test_a_single_miss(self):
        # Where the levels exchange their names, the situation comes again behind a step.
        device = ("victim", ONE, ONE)
        self.accepted(("endless", SINGLE, device, None), ((0, 1), (1,)), ((0, 1), (1, 1, 1)))
        self.rejected(("endless", SINGLE, device, None), ((0, 1), (0,)), ((0, 1), (2,)))
        self.accepted(("reached", SINGLE, SINGLE, None, (1, 1), (0, 1)), ((0,), (1,), ()))
        self.rejected(("reached", SINGLE, SINGLE, None, (1, 1), (0, 1)), ((0,), (0,), ()))

    def test_form(self):
        claim, (ahead, circle) = RIGHT["endless"]
        self.rejected(claim, (circle, ahead), (ahead,), (ahead, circle, ()), ahead, ahead + circle)
        for wrong in (None, 0, "11", [1, 1], (1, True), (True, 1), (1, -1), (1, 3), (1, None), ((1, 1),), {1: 1}, (1, "1")):
            self.rejected(claim, (ahead, wrong), (wrong, circle))

    def test_names_and_devices(self):
        claim, evidence = RIGHT["endless"]
        for allowed in (2, 3, 12):
            self.accepted(put(claim, (3,), allowed), evidence)
        self.rejected(put(claim, (3,), 1), evidence)
        self.rejected(("endless", DOUBLE, SINGLE, None), evidence, ((0, 1), (2, 2)), ((0, 1), (1, 1)))
        self.rejected(("endless", SINGLE, SINGLE, None), evidence, ((0,), (1,)))
        for wrong in (0, 13, True, "2", (2,)):
            self.rejected(put(claim, (3,), wrong), evidence)


class AlikeTest(PairTest):

    def test_situations(self):
        self.check_set("alike")

    def test_steps_that_are_answered_differently(self):
        rows = (START, FIRST, EVEN, ODD)
        self.rejected(("alike", SINGLE, DOUBLE, None), rows)
        # With one name they are alike.
        self.accepted(("alike", SINGLE, DOUBLE, 1), (START, FIRST))
        self.rejected(("alike", SINGLE, DOUBLE, 2), (START, FIRST), rows)
        # All situations that are told count, also such that are not reached with one name.
        self.rejected(("alike", SINGLE, DOUBLE, 1), rows)

    def test_situations_that_are_not_reached(self):
        claim, evidence = RIGHT["alike"]
        # Both hold another name, so the request for it is answered differently.
        self.rejected(claim, evidence + (((0, 0), (0, 1)),), evidence + (((0, 0), (0, None)),))
        once = ("cache", (1, ((0, 0, (0,)), (0, 1, (1,)))))
        claim = ("alike", once, once, None)
        self.accepted(claim, evidence, evidence + (((1, 1), (0, 0)),), evidence + (((1, 1), (0, 0)), ((0, 1), (0, 0))))
        self.rejected(claim, evidence + (((1, 1), (None, None)),))

    def test_names(self):
        claim, evidence = RIGHT["alike"]
        for allowed in (1, 2, 12):
            self.accepted(put(claim, (3,), allowed), evidence)

    def test_levels(self):
        # In a device of the mode victim no name is in both levels; in others it may be.
        device = ("victim", ONE, ONE)
        rows = (((0,) * 4, (None,) * 4), ((0,) * 4, (0, None, 0, None)), ((0,) * 4, (0, 1, 0, 1)))
        self.accepted(("alike", device, device, None), rows)
        for wrong in (((0,) * 4, (0, 0, 0, 0)), ((0,) * 4, (0, 0, 1, 0)), ((0,) * 4, (0, 1, 2, 2))):
            self.rejected(("alike", device, device, None), rows + (wrong,))
        plain = ("plain", ONE, ONE)
        rows = (((0,) * 4, (None,) * 4), ((0,) * 4, (0, 0, 0, 0)))
        self.accepted(("alike", plain, plain, None), rows)
        self.accepted(("alike", plain, ("inclusive", ONE, ONE), None), rows)
        # A level of two lines does not hold a name twice.
        pair = (("cache", LRU), ("cache", LRU))
        rows = tuple(reference.situations(*pair))
        self.accepted(("alike", *pair, None), rows)
        self.rejected(("alike", *pair, None), rows + (((0, 0), (0, 0, 1, 1)),), rows + (((0, 0), (0, 1, 2, 2)),))


class DifferTest(PairTest):

    def test_steps(self):
        claim, evidence = RIGHT["differ"]
        self.accepted(claim, (0, 1, 1), (0, 1, 1, 1), (0, 0, 0, 1, 0, 1), (0, 1, 2, 1), (0, 1) + (2,) * 3000 + (1,))
        # The last one counts alone.
        self.rejected(claim, (), (0,), (0, 1), (0, 1, 0), (0, 1, 2), (0, 1, 1, 0), (0, 1, 1, 2))

    def test_form(self):
        claim, evidence = RIGHT["differ"]
        for wrong in (True, False, -1, 3, 10 ** 39, None, "1", (1,), [1], {}):
            for index in range(3):
                self.rejected(claim, put(evidence, (index,), wrong))
        self.rejected(claim, [0, 1, 1], "011", 0, None, (evidence,), {0: 0}, ())

    def test_names_and_devices(self):
        claim, evidence = RIGHT["differ"]
        for allowed in (2, 3, 12):
            self.accepted(put(claim, (3,), allowed), evidence)
        self.rejected(put(claim, (3,), 1), evidence)
        # The numbers of the names are others if the devices are exchanged.
        self.accepted(("differ", DOUBLE, SINGLE, None), (0, 1, 0))
        self.rejected(("differ", DOUBLE, SINGLE, None), (0, 1, 1))
        self.rejected(("differ", SINGLE, SINGLE, None), evidence, (0, 1, 0), (0, 1))
        self.accepted(("differ", LATE, EARLY, None), (0, 1, 0, 2, 0))
        self.rejected(("differ", LATE, EARLY, 2), (0, 1, 0, 2, 0))


class InsideTest(PairTest):

    def test_situations(self):
        self.check_set("inside")

    def test_devices(self):
        claim, evidence = RIGHT["inside"]
        other = ((((0, 0), (None, None, None)), ((1, 0), (0, None, 0)), ((0, 0), (0, 1, 1)), ((1, 0), (0, 1, 0))))
        self.rejected(("inside", DOUBLE, SINGLE, None), other, evidence)
        self.accepted(("inside", DOUBLE, SINGLE, 1), other[:2])
        self.rejected(("inside", DOUBLE, SINGLE, 2), other[:2])
        # Answers need not be alike.
        self.accepted(("inside", SINGLE, DOUBLE, None), evidence)
        self.rejected(("alike", SINGLE, DOUBLE, None), evidence)

    def test_situations_that_are_not_reached(self):
        claim, evidence = RIGHT["inside"]
        for wrong in (((0, 0), (0, 1, 2)), ((0, 0), (0, None, None)), ((0, 1), (0, 1, None))):
            self.rejected(claim, evidence + (wrong,))


class OutsideTest(PairTest):

    def test_steps(self):
        claim, evidence = RIGHT["outside"]
        self.accepted(claim, (0, 1), (0, 1, 2), (0, 1, 0), (0, 0, 1), (0, 1) * 1 + (2,) * 3000)
        self.rejected(claim, (), (0,), (0, 0), (0, 1, 3), (1,), (0, 2))

    def test_form(self):
        claim, evidence = RIGHT["outside"]
        for wrong in (True, False, -1, 3, 10 ** 39, None, "1", (1,), [1], {}):
            for index in range(2):
                self.rejected(claim, put(evidence, (index,), wrong))
        self.rejected(claim, [0, 1], "01", 0, None, (evidence,), {0: 0})

    def test_names_and_devices(self):
        claim, evidence = RIGHT["outside"]
        self.accepted(put(claim, (3,), 2), evidence)
        self.rejected(put(claim, (3,), 1), evidence)
        self.rejected(put(claim, (3,), 2), (0, 1, 2))
        self.rejected(("outside", SINGLE, DOUBLE, None), (0, 1), (0, 1, 2), (0, 1, 1))


class AllTest(unittest.TestCase):

    def test_whatever_is_accepted_is_true_of_steps(self):
        chance = random.Random(1)
        accepted = dict.fromkeys(("reached", "endless", "differ", "outside"), 0)
        for _ in range(25):
            one = random_device(chance, chance.choice(MODES), 2, 2)
            other = random_device(chance, chance.choice(MODES), 2, 2)
            allowed = chance.choice((None, 1, 2, 3))
            claims = [("endless", one, other, allowed), ("differ", one, other, allowed), ("outside", one, other, allowed)]
            claims += [("reached", one, other, allowed, chance.choice(((0, 1), (1, 1), (1, 2))), (excess, 1)) for excess in (0, 1)]
            steps = [steps for steps, pair, told in reference.each_steps(one, other, 3, None)]
            chosen = [chance.choice(steps) for _ in range(60)]
            for claim in claims:
                truth = None
                for ahead in chosen:
                    for evidence in (
                            ahead, (ahead, chance.choice(steps)), (ahead, chance.choice(steps), chance.choice(steps)),
                            ((), (), ahead)):
                        if accepts(claim, evidence):
                            accepted[claim[0]] += 1
                            if truth is None:
                                truth = is_true(claim)
                            self.assertTrue(truth, (claim, evidence))
        for word, count in accepted.items():
            self.assertGreater(count, 4, word)

    def test_whatever_is_accepted_is_true_of_situations(self):
        chance = random.Random(2)
        accepted = dict.fromkeys(("within", "alike", "inside"), 0)
        for turn in range(150):
            one = random_device(chance, chance.choice(MODES), 1, 2)
            other = one if turn % 3 == 0 else random_device(chance, chance.choice(MODES), 2, 2)
            allowed = chance.choice((None, 1, 2, 3))
            found = reference.situations(one, other, chance.choice((allowed, 1, 2, None)))
            kept = [situation for situation in found if chance.random() < 0.97]
            claims = [(word, one, other, allowed) for word in ("alike", "inside")]
            for claim in claims:
                if accepts(claim, tuple(kept)):
                    accepted[claim[0]] += 1
                    self.assertTrue(is_true(claim), claim)
            for ratio in ((0, 1), (1, 2), (1, 1), (2, 1)):
                worths = tuple([(situation, (chance.choice((0, 1, 1, 2)), 1)) for situation in kept])
                for excess in ((0, 1), (1, 1), (2, 1)):
                    claim = ("within", one, other, allowed, ratio, excess)
                    for evidence in (worths, tuple([(situation, excess) for situation in kept])):
                        if accepts(claim, evidence):
                            accepted["within"] += 1
                            self.assertTrue(is_true(claim), claim)
        for word, count in accepted.items():
            self.assertGreater(count, 10, word)

    def test_thousands_of_steps(self):
        long = (0, 1) + (2, 2) * 5000
        self.assertIs(accepts(("differ", LATE, EARLY, None), long + (0,)), accepts(("differ", LATE, EARLY, None), (0, 1, 2, 2, 0)))
        self.assertIs(accepts(("endless", SINGLE, DOUBLE, None), ((0, 1), (1, 1) * 4000)), True)
        self.assertIs(accepts(("endless", SINGLE, DOUBLE, None), ((0, 1), (1, 1) * 4000 + (1,))), False)
        self.assertIs(accepts(("endless", SINGLE, DOUBLE, None), ((0,) * 5000 + (1,), (1, 1))), True)
        self.assertIs(accepts(("reached", DOUBLE, SINGLE, None, (1, 1), (0, 1)), ((0, 1), (2,) * 8000, (0, 1) + (2,) * 7000)), True)

    def test_more_than_600_situations(self):
        one, other = hit_counter(40), miss_counter(40)
        found = reference.situations(one, other, None)
        self.assertGreater(len(found), 1600)
        self.assertIs(accepts(("alike", one, other, None), tuple(found)), True)
        self.assertIs(accepts(("alike", one, other, None), tuple(found)[:-1]), False)
        self.assertIs(accepts(("inside", one, other, None), tuple(found)[::-1]), True)
        worths = tuple([(situation, (1, 3)) for situation in found])
        self.assertIs(accepts(("within", one, other, None, (1, 1), (1, 3)), worths), True)
        self.assertIs(accepts(("within", one, other, None, (1, 1), (1, 4)), worths), False)


if __name__ == "__main__":
    unittest.main()
