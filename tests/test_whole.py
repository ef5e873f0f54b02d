"""What the parts of the program tell of the same devices, against one another, and the main properties (point 3)."""

import random
import unittest
from fractions import Fraction

import reference
from missbounds.bounds import bound, first_outside, is_never_worse, least_excess
from missbounds.caches import Cache, LoggedCache, ValueCache
from missbounds.catalog import named
from missbounds.changes import mended
from missbounds.checker import accepts
from missbounds.console import Console
from missbounds.errors import BrokenLimit, TooManySituations
from missbounds.evidence import (
    alike_evidence, forgets_evidence, inside_evidence, least_evidence, misses_evidence, reached_evidence, remembers_evidence,
    verdict_evidence, within_evidence,
)
from missbounds.forgetting import forgets, longest_memory
from missbounds.logs import agrees, possible, telling
from missbounds.optimum import best_keeping, least_misses
from missbounds.plains import are_alike, difference, plain
from missbounds.policies import count_lines
from missbounds.policytexts import read_device, write_device
from missbounds.programs import each_path, most_misses, verdicts
from missbounds.rack import Rack
from missbounds.situations import after, each_situation, names_of, situation_of, steps_of
from missbounds.traces import answers, count_misses, far_misses, long_run
from samples import random_device, random_history, random_policy

MODES = ("cache", "plain", "inclusive", "victim")


def devices(chance, count, lines=2, states=3):
    return [random_device(chance, MODES[at % 4], lines, states) for at in range(count)]


def walked(one, other, situation, names):
    """Return the answers of two devices to names from an empty situation on, step by step."""
    told = []
    for step in steps_of(one, other, names):
        hit, far_hit, situation = after(one, other, situation, step)
        told.append((hit, far_hit))
    return told, situation


class SameTest(unittest.TestCase):

    def test_caches_traces_situations_and_logs(self):
        chance = random.Random(1)
        for one in devices(chance, 40, 4, 6):
            other = random_device(chance, chance.choice(MODES), 4, 6)
            names = random_history(chance, ["a", "b", "zz", "q", "abcdef", "c", "d"], 30)
            right = reference.answers(one, names)
            self.assertEqual(answers(one, names), right)
            cache, logged = Cache(one), LoggedCache(one)
            values = ValueCache(one, lambda name: name, lambda name, value: None)
            for each in (cache, logged, values):
                self.assertEqual(each.request_all(*names), right)
                self.assertEqual((each.states, tuple(sum(each.levels, ()))), reference.run(one, names)[0].place())
                self.assertEqual(each.misses, count_misses(one, names))
            self.assertEqual(logged.log, tuple(zip(names, right)))
            self.assertTrue(agrees(one, logged.log))
            self.assertEqual(0 in possible((one, other), logged.log), True)
            self.assertEqual(1 in possible((one, other), logged.log), answers(other, names) == right)
            begin = situation_of(one, other, ())
            told, last = walked(one, other, begin, names)
            self.assertEqual(told, list(zip(right, answers(other, names))))
            self.assertEqual(last, situation_of(one, other, names))
            self.assertEqual(far_misses(one, names, (), 5), count_misses(one, names))
            self.assertEqual(far_misses(one, (), names, 3), count_misses(one, names * 3))
            self.assertIs(accepts(("answers", one, names, right), None), True)
            ahead, period, missed = long_run(one, names[:3])
            self.assertEqual(count_misses(one, names[:3] * (ahead + period)) - count_misses(one, names[:3] * ahead), missed)
            self.assertEqual(read_device(write_device(one)), one)
            self.assertEqual(count_lines(one), len(sum(cache.levels, ())))

    def test_names_do_not_matter(self):
        chance = random.Random(2)
        for one in devices(chance, 20, 3, 4):
            names = random_history(chance, "abcd", 25)
            other_names = tuple([{"a": "zz", "b": "y", "c": "abcdef", "d": "b"}[name] for name in names])
            self.assertEqual(answers(one, names), answers(one, other_names))
            self.assertEqual(steps_of(one, one, names), steps_of(one, one, other_names))
            self.assertEqual(situation_of(one, one, names), situation_of(one, one, other_names))
            self.assertEqual(least_misses(names, 2), least_misses(other_names, 2))

    def test_bounds_evidence_rack_console_and_traces(self):
        chance = random.Random(3)
        seen = 0
        for one in devices(chance, 30):
            other = random_device(chance, chance.choice(MODES), 2, 3)
            try:
                least = bound(one, other)
            except TooManySituations:
                continue
            seen += 1
            rack = Rack()
            rack.do_all(("install", "one", one), ("install", "other", other))
            console = Console()
            console.rack.do_all(("install", "one", one), ("install", "other", other))
            if least is None:
                self.assertEqual(console.say("bound one other"), "endless")
                with self.assertRaises(BrokenLimit):
                    rack.bind("one", "other", (10 ** 20, 1), (10 ** 20, 1))
                self.check_endless(one, other)
            else:
                text = " ".join([str(Fraction(*part)) for part in least])
                self.assertEqual(console.say("bound one other"), text)
                self.assertEqual(console.say("bind one other " + text), "ok")
                rack.bind("one", "other", *least)
                self.assertEqual(rack, console.rack)
                self.check_bound(one, other, least, chance)
                if least[1][0]:
                    with self.assertRaises(BrokenLimit):
                        rack.bind("one", "other", least[0], (0, 1))
            self.assertEqual(is_never_worse(one, other), least_excess(one, other, (1, 1)) == (0, 1))
            steps = difference(one, other)
            text = "alike" if steps is None else " ".join(names_of(one, other, steps))
            self.assertEqual(console.say("differ one other"), text)
            if steps is not None:
                names = names_of(one, other, steps)
                self.assertNotEqual(answers(one, names)[-1], answers(other, names)[-1])
                self.assertEqual(answers(one, names[:-1]), answers(other, names[:-1]))
                self.assertEqual(len(telling((one, other), ())), len(names))
                self.assertEqual(possible((one, other), tuple(zip(names, answers(other, names)))), (1,))
            else:
                self.assertIsNone(telling((one, other), ()))
            self.assertEqual(are_alike(one, other), steps is None)
        self.assertGreater(seen, 15)

    def check_endless(self, one, other):
        claim, (ahead, circle) = reached_evidence(one, other)
        self.assertEqual(claim[0], "endless")
        self.assertTrue(accepts(claim, (ahead, circle)))
        # Round after round the first one misses and the other one does not.
        names = names_of(one, other, ahead + circle * 6)
        cut = len(ahead)
        self.assertGreaterEqual(count_misses(one, names) - count_misses(one, names[:cut]), 6)
        self.assertEqual(count_misses(other, names), count_misses(other, names[:cut]))

    def check_bound(self, one, other, least, chance):
        ratio, excess = [Fraction(*part) for part in least]
        for _ in range(20):
            names = random_history(chance, "abcd", chance.randint(0, 30))
            self.assertLessEqual(count_misses(one, names), ratio * count_misses(other, names) + excess)
        claim, (ahead, circle, path) = reached_evidence(one, other)
        self.assertTrue(accepts(*within_evidence(one, other)))
        self.assertTrue(accepts(claim, (ahead, circle, path)))
        names = names_of(one, other, path)
        self.assertEqual(count_misses(one, names), ratio * count_misses(other, names) + excess)
        names, rounds = names_of(one, other, ahead), names_of(one, other, ahead + circle * 2)
        if circle:
            gained = count_misses(one, rounds) - count_misses(one, names)
            self.assertEqual(gained, ratio * (count_misses(other, rounds) - count_misses(other, names)))

    def test_what_is_held(self):
        chance = random.Random(4)
        for one in devices(chance, 24):
            other = random_device(chance, chance.choice(MODES), 2, 2)
            try:
                steps = first_outside(one, other)
            except TooManySituations:
                continue
            self.assertTrue(accepts(*inside_evidence(one, other)))
            caches = Cache(one), Cache(other)
            if steps is None:
                names = random_history(chance, "abcde", 40)
            else:
                names = names_of(one, other, steps)
            for at, name in enumerate(names):
                for cache in caches:
                    cache.request(name)
                inside = set(caches[0].held) <= set(caches[1].held)
                self.assertEqual(inside, steps is None or at < len(names) - 1)

    def test_programs(self):
        chance = random.Random(5)
        for device in devices(chance, 40):
            many = chance.randint(1, 4)
            program = tuple([
                (chance.choice("abc"), tuple(sorted(chance.sample(range(many), chance.randint(0, min(2, many)))))) for _ in range(many)])
            words, most = verdicts(device, program), most_misses(device, program)
            self.assertTrue(accepts(*misses_evidence(device, program)))
            for length in range(1, 7):
                for path in each_path(program, length):
                    cache = Cache(device)
                    told = cache.request_all(*[program[place][0] for place in path])
                    self.assertIn(words[path[-1]], ("both", "hit" if told[-1] else "miss"))
                    self.assertTrue(most is None or cache.misses <= most)
            for place, word in enumerate(words):
                found = [verdict_evidence(device, program, place, answer) for answer in (True, False)]
                self.assertTrue(all([accepts(*each) for each in found]))
                self.assertEqual([each[0][0] == "always" for each in found], [word in ("hit", "never"), word in ("miss", "never")])


class MainTest(unittest.TestCase):

    def test_plain_forms(self):
        chance = random.Random(6)
        found = []
        for _ in range(150):
            one, other = random_policy(chance, chance.randint(1, 2), chance.randint(1, 2)), random_policy(chance, 2, chance.randint(1, 2))
            alike = are_alike(("cache", one), ("cache", other))
            self.assertEqual(plain(one) == plain(other), alike)
            self.assertTrue(are_alike(("cache", one), ("cache", plain(one))))
            claim, evidence = alike_evidence(("cache", one), ("cache", other))
            self.assertEqual(claim[0], "alike" if alike else "differ")
            found.append(alike)
        self.assertGreater(found.count(True), 10)
        self.assertGreater(found.count(False), 10)

    def test_what_a_cache_forgets(self):
        chance = random.Random(7)
        for _ in range(40):
            policy = random_policy(chance, chance.randint(1, 3), chance.randint(1, 4))
            many = forgets(policy)
            self.assertTrue(accepts(*forgets_evidence(policy)))
            if many is None:
                continue
            self.assertTrue(accepts(*remembers_evidence(policy)))
            for _ in range(10):
                cache = Cache(("cache", policy))
                cache.request_all(*random_history(chance, "abcdef", chance.randint(0, 20)))
                before = cache.held
                # Different requests, some of them for names that are held.
                names = chance.sample(["n" + letter for letter in "abcdefghijklmnopqrstuvwxyz"], many)
                for at in range(many):
                    held = [name for name in cache.held if name not in names]
                    names[at] = chance.choice(held) if held and chance.random() < 0.5 else names[at]
                    cache.request(names[at])
                self.assertEqual(set(before) & set(cache.held) - set(names), set())
            self.check_memory(policy, many)

    def check_memory(self, policy, many):
        ahead, moves = longest_memory(policy)
        self.assertEqual(len(moves), many - 1)
        cache = Cache(("cache", policy))
        spare = ["x" + letter + more for letter in "abcdefghij" for more in "abcdefghijklmnopqrstuvwxyz"]
        told = []
        for at, move in enumerate(ahead + moves):
            name = spare.pop() if move == policy[0] else cache.levels[0][move]
            cache.request(name)
            told.append(name)
        before = set(told[:len(ahead)])
        self.assertTrue((set(cache.held) & before) - set(told[len(ahead):]))

    def test_least_misses(self):
        chance = random.Random(8)
        for _ in range(40):
            names, lines = random_history(chance, "abcde", chance.randint(0, 60)), chance.randint(1, 4)
            claim, evidence = least_evidence(names, lines)
            self.assertEqual(claim[3], least_misses(names, lines))
            self.assertTrue(accepts(claim, evidence))
            self.assertEqual(evidence[0], best_keeping(names, lines))
            for title in ("lru", "fifo", "clock"):
                self.assertGreaterEqual(count_misses(("cache", named(title, lines)), names), claim[3])

    def test_mended_policies(self):
        chance = random.Random(9)
        for _ in range(15):
            policy, other = random_policy(chance, 2, 2), ("cache", named(chance.choice(("lru", "fifo", "mru")), 2))
            told = mended(policy, other)
            if told is not None:
                names = random_history(chance, "abc", 40)
                self.assertLessEqual(count_misses(("cache", told), names), count_misses(other, names))
                rack = Rack()
                rack.do_all(("install", "new", ("cache", told)), ("install", "old", other), ("bind", "new", "old", (1, 1), (0, 1)))
                self.assertEqual(len(rack.limits), 1)

    def test_limits_hold_for_histories(self):
        chance = random.Random(10)
        rack = Rack()
        found = devices(chance, 5, 2, 2) + [("cache", named("lru", 2)), ("cache", named("lru", 3))]
        names = ["d" + letter for letter in "abcdefg"]
        rack.do_all(*[("install", name, device) for name, device in zip(names, found)])
        refused = 0
        for _ in range(120):
            edit = chance.choice((
                ("bind", chance.choice(names), chance.choice(names), chance.choice(((1, 1), (2, 1), (3, 1))), chance.choice(((0, 1), (2, 1)))),
                ("exchange", chance.choice(names), chance.choice(found))))
            try:
                rack.do_all(edit)
            except (BrokenLimit, TooManySituations):
                refused += 1
            for name, other, ratio, excess in rack.limits:
                history = random_history(chance, "abcd", 25)
                far = count_misses(rack[other], history)
                self.assertLessEqual(count_misses(rack[name], history), Fraction(*ratio) * far + Fraction(*excess))
        self.assertGreater(refused, 10)
        self.assertGreater(len(rack.limits), 5)

    def test_situations_of_evidence(self):
        one, other = ("cache", named("lru", 2)), ("victim", named("lru", 1), named("fifo", 1))
        found = list(each_situation(one, other))
        for function in (within_evidence, inside_evidence, alike_evidence):
            claim, evidence = function(one, other)
            if claim[0] in ("within", "inside", "alike"):
                self.assertEqual(len(evidence), len(found))


if __name__ == "__main__":
    unittest.main()
