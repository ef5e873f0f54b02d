"""The claims of the checker over programs and histories, each thing that is said about them broken by itself."""

import itertools
import random
import unittest

import keepings
import reference
from claims import AGAIN, DOUBLE, EMPTY, END, LOOP, RIGHT, ROUND, SINGLE, ClaimTest
from helper import odd_values, put
from missbounds.catalog import fifo
from missbounds.checker import accepts
from samples import ONE, counter, random_device, random_history, small_devices, wrong_histories, wrong_names
from truths import is_true

MODES = ("cache", "plain", "inclusive", "victim")


def wrong_moments():
    """Return what is no moment of the double cache in the program of two places."""
    # Nothing follows the last place, so only the form speaks against them.
    lines = ("a", None)
    wrong = [(2, (0,), lines), (-1, (0,), lines), (True, (0,), lines), (None, (0,), lines), ((1,), (0,), lines)]
    wrong += [(1, (2,), lines), (1, (-1,), lines), (1, (True,), lines), (1, (), lines), (1, (0, 0), lines), (1, 0, lines), (1, [0], lines)]
    wrong += [(1, (0,), lines[:1]), (1, (0,), lines + (None,)), (1, (0,), ("a", "a")), (1, (0,), list(lines)), (1, (0,), "ac")]
    wrong += [(1, (0,), ("a", name)) for name in ("", "A", "abcdefg", "a b", "a1", 0, True, ("a",), b"a", ["a"])]
    wrong += [(1, (0,)), (1, (0,), lines, 0), [1, (0,), lines], ((0,), 1, lines), (lines, (0,), 1), 1, None, (), "a", lines]
    return wrong


class AlwaysTest(ClaimTest):

    def test_moments(self):
        claim, evidence = RIGHT["always"]
        for order in itertools.permutations(evidence):
            self.accepted(claim, order)
        for index, moment in enumerate(evidence):
            self.rejected(claim, evidence[:index] + evidence[index + 1:], evidence + (moment,), (moment,) + evidence)
        self.rejected(claim, (), list(evidence), evidence[0], (evidence,), dict.fromkeys(evidence), None)
        for wrong in wrong_moments():
            self.rejected(claim, evidence + (wrong,), (wrong,) + evidence)

    def test_moments_that_are_not_reached_count_too(self):
        claim, evidence = RIGHT["always"]
        # Here b is held when its place comes.
        self.rejected(claim, evidence + ((1, (0,), ("a", "b")),), evidence + ((1, (1,), ("b", None)),))
        self.accepted(claim, evidence + ((1, (0,), ("zzzzzz", "a")),), evidence + ((1, (1,), (None, "c")),))
        # What follows them must be there as well.
        more = (0, (0,), ("c", "d"))
        self.rejected(claim, evidence + (more,))
        behind = ((0, (1,), ("a", "d")), (1, (1,), ("a", "d")))
        self.rejected(claim, evidence + (more,) + behind[:1], evidence + (more,) + behind[1:])
        self.accepted(claim, evidence + (more,) + behind)

    def test_answers_and_places(self):
        claim, evidence = RIGHT["always"]
        self.rejected(put(claim, (4,), True), evidence)
        # The first place is sometimes a miss and sometimes a hit.
        for answer in (True, False):
            self.rejected(put(put(claim, (3,), 0), (4,), answer), evidence)
        for place in (2, 29, 30, 10 ** 39, -1, True, None, "1"):
            self.rejected(put(claim, (3,), place), evidence)
        for answer in (0, 1, None, "hit", (False,)):
            self.rejected(put(claim, (4,), answer), evidence)

    def test_a_place_to_which_no_path_leads(self):
        moments = (
            (0, (0,), (None, None)), (1, (1,), ("a", None)), (0, (0,), ("a", "b")), (1, (1,), ("a", "b")))
        for answer in (True, False):
            self.accepted(("always", DOUBLE, ROUND, 2, answer), moments)
            self.rejected(("always", DOUBLE, ROUND, 2, answer), moments[:-1], moments[1:])
        self.rejected(("always", DOUBLE, ROUND, 3, True), moments)

    def test_levels(self):
        device = ("victim", ONE, ONE)
        program = (("a", (1,)), ("b", (0,)))
        moments = ((0, (0, 0), (None, None)), (1, (0, 0), ("a", None)), (0, (0, 0), ("b", "a")), (1, (0, 0), ("a", "b")))
        for place in (0, 1):
            for answer in (True, False):
                self.rejected(("always", device, program, place, answer), moments)
        program += (("c", ()),)
        self.accepted(("always", device, program, 2, True), moments)
        self.rejected(("always", device, program, 2, True), moments + ((2, (0, 0), ("d", "d")),))
        self.accepted(("always", device, program, 2, True), moments + ((2, (0, 0), ("d", "c")),))
        plain = ("plain", ONE, ONE)
        moments = ((0, (0, 0), (None, None)), (1, (0, 0), ("a", "a")), (0, (0, 0), ("b", "b")))
        self.accepted(("always", plain, program, 0, False), moments)
        self.rejected(("always", plain, program, 0, True), moments)


class SometimesTest(ClaimTest):

    def test_paths(self):
        claim, evidence = RIGHT["sometimes"]
        self.accepted(claim, (0, 0), (0, 0, 0), (0,) * 5000)
        # Another place at the end, another answer there, no path.
        self.rejected(claim, (0, 1), (0, 0, 1), (0,), (), (1,), (1, 0), (0, 1, 0), (0, 1, 1), (0, 2), (0, 2, 0))
        self.accepted(("sometimes", DOUBLE, LOOP, 0, False), (0,))
        self.accepted(("sometimes", DOUBLE, LOOP, 1, False), (0, 1), (0, 0, 1))
        self.rejected(("sometimes", DOUBLE, LOOP, 1, True), (0, 1), (0, 0, 1))

    def test_form(self):
        claim, evidence = RIGHT["sometimes"]
        for wrong in (True, False, -1, 2, 10 ** 39, None, "0", (0,), [0], {}):
            self.rejected(claim, (0, wrong), (wrong, 0), (0, wrong, 0), wrong)
        self.rejected(claim, [0, 0], "00", ((0, 0),), {0: 0})
        for place in (2, 30, -1, False, None, "0"):
            self.rejected(put(claim, (3,), place), evidence)
        for answer in (0, 1, None, "hit"):
            self.rejected(put(claim, (4,), answer), evidence)

    def test_devices(self):
        claim, evidence = RIGHT["sometimes"]
        path = (0, 1, 0)
        self.accepted(("sometimes", DOUBLE, ROUND, 0, True), path)
        self.rejected(("sometimes", SINGLE, ROUND, 0, True), path)
        self.accepted(("sometimes", SINGLE, ROUND, 0, False), path)
        for mode in ("plain", "inclusive", "victim"):
            held = mode == "victim"
            self.assertIs(accepts(("sometimes", (mode, ONE, ONE), ROUND, 0, True), path), held)
            self.assertIs(accepts(("sometimes", (mode, ONE, ONE), ROUND, 0, False), path), not held)


class AtMostTest(ClaimTest):

    def test_moments(self):
        claim, evidence = RIGHT["at most"]
        for order in itertools.permutations(evidence):
            self.accepted(claim, order)
        for index, pair in enumerate(evidence):
            self.rejected(claim, evidence[:index] + evidence[index + 1:], evidence + (pair,), ((pair[0], 9),) + evidence)
        self.rejected(claim, (), list(evidence), evidence[0], (evidence,), dict(evidence), None)
        for wrong in wrong_moments():
            self.rejected(claim, evidence + ((wrong, 9),))
        for wrong in ((END,), (END, 1, 1), (1, END), END, [END, 1], 1, None, ()):
            self.rejected(claim, evidence[:2] + (wrong,))

    def test_numbers(self):
        claim, evidence = RIGHT["at most"]
        for many in (2, 3, 10 ** 39):
            self.accepted(put(claim, (3,), many), evidence)
        for many in (1, 0, -1, True, None, "2", (2,)):
            self.rejected(put(claim, (3,), many), evidence)
        for index in range(3):
            for wrong in (-1, True, False, None, "1", (1,), [1]):
                self.rejected(claim, put(evidence, (index, 1), wrong))
        # Less than the misses of a moment itself, or less than those and what follows.
        self.rejected(claim, put(evidence, (2, 1), 0), put(evidence, (1, 1), 0), put(evidence, (0, 1), 1), put(evidence, (0, 1), 3))
        self.rejected(claim, put(evidence, (2, 1), 2), put(evidence, (1, 1), 2))
        self.accepted(put(claim, (3,), 3), put(put(evidence, (0, 1), 3), (1, 1), 2), put(evidence, (0, 1), 3))
        self.accepted(put(claim, (3,), 9), (((EMPTY, 9), (AGAIN, 8), (END, 8))), (((EMPTY, 9), (AGAIN, 8), (END, 1))))
        self.rejected(put(claim, (3,), 9), (((EMPTY, 9), (AGAIN, 7), (END, 8))), (((EMPTY, 8), (AGAIN, 8), (END, 8))))

    def test_moments_that_are_not_reached_count_too(self):
        claim, evidence = RIGHT["at most"]
        held = (1, (0,), ("b", None))
        self.accepted(claim, evidence + ((held, 0),), evidence + ((held, 9),))
        missed = (1, (0,), ("c", None))
        self.rejected(claim, evidence + ((missed, 0),))
        self.accepted(claim, evidence + ((missed, 1),))

    def test_no_greatest_number(self):
        moments = (0, (0,), (None,)), (1, (0,), ("a",)), (0, (0,), ("b",))
        for numbers in ((3, 2, 2), (3, 2, 1), (9, 8, 9), (2, 1, 0)):
            self.rejected(("at most", SINGLE, ROUND, 10 ** 39), tuple(zip(moments, numbers)))


class SoManyTest(ClaimTest):

    def test_paths(self):
        claim, evidence = RIGHT["so many"]
        self.accepted(claim, (0, 1), (0, 0, 1), (0,) * 5000 + (1,))
        self.rejected(claim, (0,), (0, 0), (), (1,), (0, 1, 0), (0, 1, 1), (0, 2), (1, 0))
        for wrong in (True, False, -1, 2, 10 ** 39, None, "0", (0,), [0], {}):
            self.rejected(claim, (0, wrong), (wrong, 1), (0, wrong, 1), wrong)
        self.rejected(claim, [0, 1], "01", ((0, 1),), {0: 1})

    def test_numbers(self):
        claim, evidence = RIGHT["so many"]
        for many in (0, 1, 3, 10 ** 39, -1, True, None, "2"):
            self.rejected(put(claim, (3,), many), evidence)
        self.accepted(put(claim, (3,), 1), (0,), (0, 0), (0, 0, 0))
        self.rejected(put(claim, (3,), 0), (), (0,))
        for many in range(1, 40):
            self.accepted(("so many", SINGLE, ROUND, many), tuple([place % 2 for place in range(many)]))
        self.accepted(("so many", SINGLE, ROUND, 4000), (0, 1) * 2000)


class NoMostTest(ClaimTest):

    def test_paths(self):
        claim, evidence = RIGHT["no most"]
        self.accepted(claim, ((0,), (1, 0)), ((0, 1), (0, 1)), ((0, 1, 0), (1, 0, 1, 0)), ((0,), (1, 0) * 3000))
        # No circle, one that ends at another place, one that begins at a place that does not follow.
        self.rejected(claim, ((0,), ()), ((0,), (1,)), ((0, 1), (0,)), ((0,), (0,)), ((0, 1), (1, 0)), ((0,), (2, 0)))
        # No path ahead.
        self.rejected(claim, ((), (0, 1)), ((), (0, 1, 0)), ((1,), (0, 1)), ((0, 0), (1, 0)), ((0, 2), (1, 0)), ((), ()))

    def test_places_states_and_lines_come_again(self):
        # The state tells two rounds apart.
        wheel = ("cache", (1, ((0, 1, (0,)), (0, 2, (1,)), (0, 3, (2,)), (0, 0, (3,)))))
        self.rejected(("no most", wheel, ROUND), ((0,), (1, 0)))
        self.accepted(("no most", wheel, ROUND), ((0,), (1, 0, 1, 0)))
        # The same states and lines at another place with the same name.
        twins = (("a", (1,)), ("b", (2,)), ("a", (1,)))
        self.rejected(("no most", SINGLE, twins), ((0,), (1, 2)))
        self.accepted(("no most", SINGLE, twins), ((0, 1), (2, 1)), ((0, 1, 2), (1, 2)))
        # Other names in the lines behind the first round.
        three = (("a", (1,)), ("b", (2,)), ("c", (1,)))
        self.rejected(("no most", ("cache", fifo(2)), three), ((0, 1), (2, 1)))

    def test_a_miss_on_the_circle(self):
        self.rejected(("no most", DOUBLE, ROUND), ((0, 1), (0, 1)), ((0, 1, 0, 1), (0, 1)), ((0,), (1, 0)))
        self.rejected(("no most", DOUBLE, LOOP), ((0,), (0,)), ((0, 0), (0, 0)))
        # The misses ahead do not count.
        self.rejected(("no most", SINGLE, LOOP), ((0,), (0,)), ((0, 0), (0,)))

    def test_form(self):
        claim, (ahead, circle) = RIGHT["no most"]
        self.rejected(claim, (ahead,), (ahead, circle, ()), ahead + circle, [ahead, circle], (circle, ahead))
        for wrong in (None, 0, "0", [0], (True,), (False,), (-1,), (3,), ("0",), (None,), ((0,),), {0: 0}):
            self.rejected(claim, (wrong, circle), (ahead, wrong))


class LeastTest(ClaimTest):

    def test_keepings(self):
        claim, (kept, weights) = RIGHT["least"]
        # Any of the three may be kept, as only one other name is kept at each time.
        names = claim[1]
        right = [
            marks for marks in itertools.product((False, True), repeat=5)
            if keepings.is_allowed(names, 2, marks) and sum(marks) == 1]
        for marks in itertools.product((False, True), repeat=5):
            self.assertIs(accepts(claim, (marks, weights)), marks in right, marks)
        self.assertEqual(len(right), 2)
        for wrong in (kept[:-1], kept + (False,), list(kept), (1, 0, 0, 0, 0), (), None, "10000", put(kept, (0,), 1), put(kept, (1,), None)):
            self.rejected(claim, (wrong, weights))

    def test_misses_that_are_not_those_of_the_keeping(self):
        claim, (kept, weights) = RIGHT["least"]
        # One element too many, one too few, and one True without a later request.
        self.rejected(put(claim, (3,), 5), (kept + (False,), weights), (kept + (False,), weights + (0,)))
        self.rejected(put(claim, (3,), 3), (kept[:-1], weights), (kept[:-1] + (True,), weights), (put(kept, (3,), True), weights))

    def test_weights(self):
        claim, (kept, weights) = RIGHT["least"]
        names = claim[1]
        for worth in itertools.product((0, 1, 2), repeat=5):
            self.assertIs(accepts(claim, (kept, worth)), keepings.shown_by(names, 2, worth) <= 1, worth)
        for wrong in (-1, True, False, None, "1", (1,), [1], 10 ** 39):
            for index in range(5):
                self.rejected(claim, (kept, put(weights, (index,), wrong)))
        self.rejected(claim, (kept, weights[1:]), (kept, weights + (0,)), (kept, ()), (kept, list(weights)), (kept, None), (kept, 1))
        # A weight below 0 would show too much.
        self.rejected(claim, (kept, (-1, 0, 1, 0, 0)), (kept, (0, 0, 2, 0, -1)))

    def test_numbers(self):
        claim, evidence = RIGHT["least"]
        for many in (0, 1, 2, 3, 5, 10 ** 39, -1, True, None, "4"):
            self.rejected(put(claim, (3,), many), evidence)
        for lines in (1, 3, 4, 0, 5, True, None, "2"):
            self.rejected(put(claim, (2,), lines), evidence)
        # A keeping that is not the best one, with weights that show what the best one is.
        self.rejected(put(claim, (3,), 5), ((False,) * 5, evidence[1]), ((False,) * 5, (0,) * 5))
        self.accepted(("least", ("a", "b", "c", "a", "b"), 1, 5), ((False,) * 5, (1, 1, 1, 1, 1)), ((False,) * 5, (0, 1, 1, 1, 0)))

    def test_form(self):
        claim, (kept, weights) = RIGHT["least"]
        self.rejected(claim, (kept,), (weights, kept), (kept, weights, ()), [kept, weights], kept, None)

    def test_names(self):
        self.accepted(("least", (), 1, 0), ((), ()))
        self.rejected(("least", (), 1, 1), ((), ()))
        self.accepted(("least", ("a",) * 200, 1, 1), ((True,) * 199 + (False,), (0,) * 200))
        self.rejected(("least", ("a",) * 201, 1, 1), ((True,) * 200 + (False,), (0,) * 201))
        self.accepted(("least", ("zzzzzz", "zzzzzz"), 4, 1), ((True, False), (0, 0)))
        for names, index in wrong_histories():
            self.rejected(put(RIGHT["least"][0], (1,), names), RIGHT["least"][1])

    def test_whatever_is_accepted_is_true(self):
        chance = random.Random(1)
        accepted = 0
        for names in list(keepings.each_shape(5, 3)) + chance.sample(list(keepings.each_shape(6, 4)), 40):
            for lines in (1, 2, 3):
                claims = [("least", names, lines, many) for many in range(len(names) + 1)]
                for _ in range(12):
                    kept = chance.choice(list(keepings.each_keeping(names, lines)))
                    weights = tuple([chance.choice((0, 0, 0, 1)) for _ in names])
                    for claim in claims:
                        if accepts(claim, (kept, weights)):
                            accepted += 1
                            self.assertTrue(is_true(claim))
        self.assertGreater(accepted, 100)


class AnswersTest(ClaimTest):

    def test_answers(self):
        for device in small_devices():
            for length in range(5):
                for names in itertools.product("ab", repeat=length):
                    right = reference.answers(device, names)
                    for told in itertools.product((False, True), repeat=length):
                        self.assertIs(accepts(("answers", device, names, told), None), told == right)
                    self.rejected(("answers", device, names, right + (True,)), None)
                    self.rejected(("answers", device, names, right + (False,)), None)
                    self.rejected(("answers", device, names + ("a",), right), None)

    def test_long_histories(self):
        chance = random.Random(2)
        for mode in MODES:
            device = random_device(chance, mode)
            names = random_history(chance, "abcdefg", 2000)
            right = reference.answers(device, names)
            self.accepted(("answers", device, names, right), None)
            self.rejected(("answers", device, names, right[:-1] + (not right[-1],)), None)
            more = names + ("a",)
            self.rejected(("answers", device, more, reference.answers(device, more)), None)

    def test_evidence_is_none(self):
        claim, evidence = RIGHT["answers"]
        for odd in odd_values() + [0, 1, (None,), claim[3], ()]:
            self.assertIs(accepts(claim, odd), odd is None)

    def test_form(self):
        claim, evidence = RIGHT["answers"]
        for names, index in wrong_histories():
            self.rejected(put(claim, (2,), names), None)
        for name in wrong_names():
            self.rejected(("answers", DOUBLE, (name,), (False,)), None)
            self.rejected(("so many", DOUBLE, ((name, ()),), 1), (0,))
        for name in ("a", "z", "abcdef", "zzzzzz"):
            self.accepted(("answers", DOUBLE, (name,), (False,)), None)
            self.accepted(("so many", DOUBLE, ((name, ()),), 1), (0,))
        for wrong in ((0, 0, 1), (False, False, 1), [False, False, True], (None,) * 3, "", None, (False, False)):
            self.rejected(put(claim, (3,), wrong), None)
        self.accepted(("answers", DOUBLE, (), ()), None)


class AllTest(unittest.TestCase):

    def test_whatever_is_accepted_is_true(self):
        chance = random.Random(3)
        accepted = dict.fromkeys(("sometimes", "so many", "no most", "at most", "always"), 0)
        for _ in range(200):
            device = random_device(chance, chance.choice(MODES), 2, 2)
            many = chance.randint(1, 3)
            program = tuple([
                (chance.choice("ab"), tuple(sorted(chance.sample(range(many), chance.randint(0, many))))) for _ in range(many)])
            place, answer, count = chance.randrange(many), chance.random() < 0.5, chance.randint(0, 3)
            moments = tuple(reference.moments_of(device, program))
            for _ in range(12):
                path = walked(chance, program, chance.randint(1, 4))
                circle = walked(chance, program, chance.randint(1, 5))[1:]
                some = tuple([moment for moment in moments if chance.random() < 0.97])
                numbers = tuple([(moment, chance.choice((count, chance.randint(0, 3)))) for moment in some])
                for claim, evidence in (
                        (("sometimes", device, program, place, answer), path), (("so many", device, program, count), path),
                        (("no most", device, program), (path, circle)), (("at most", device, program, count), numbers),
                        (("always", device, program, place, answer), some)):
                    if accepts(claim, evidence):
                        accepted[claim[0]] += 1
                        self.assertTrue(is_true(claim), (claim, evidence))
        for word, count in accepted.items():
            self.assertGreater(count, 20, word)

    def test_more_than_600_moments(self):
        # Each round of seven places turns the wheel, so its 64 states come at all places in turn.
        wheel = counter(64)
        ring = tuple([(letter, ((index + 1) % 7,)) for index, letter in enumerate("abcdefg")])
        two = ("plain", wheel[1], counter(61)[1])
        moments = tuple(reference.moments_of(two, ring))
        self.assertGreater(len(moments), 3900)
        for answer in (True, False):
            self.assertIs(accepts(("always", two, ring, 3, answer), moments), answer is False)
        self.assertIs(accepts(("always", two, ring, 3, False), moments[1:]), False)
        line = tuple([(letter, (index + 1,) if index < 7 else ()) for index, letter in enumerate("abcdefgh")])
        many = tuple(
            (moment, 8 - moment[0]) for moment in reference.moments_of(two, line))
        extra = tuple([((7, (state, low), ("a", "b")), 1) for state in range(64) for low in range(30)])
        self.assertIs(accepts(("at most", two, line, 8), many + extra), True)
        self.assertIs(accepts(("at most", two, line, 7), many + extra), False)
        self.assertIs(accepts(("at most", two, line, 8), many + extra[:-1] + ((extra[-1][0], 0),)), False)


def walked(chance, program, length):
    """Return a path of up to so many places."""
    path = (0,)
    while len(path) < length and program[path[-1]][1]:
        path += (chance.choice(program[path[-1]][1]),)
    return path


if __name__ == "__main__":
    unittest.main()
