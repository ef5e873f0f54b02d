import copy
import itertools
import random
import unittest

import reference
from helper import odd_values, run_example
from missbounds.catalog import fifo, lru, mru, named
from missbounds.errors import InvalidDevice, InvalidDevices, InvalidLog, TooManySituations
from missbounds.logs import agrees, possible, telling
from missbounds.traces import answers
from refused import check_parameters, check_refused, indexes_told, values_told
from samples import (
    LRU, PAIR_600, PAIR_601, counter, hit_counter, miss_counter, random_device, random_history, right_devices,
    small_devices, wrong_devices, wrong_names,
)

MODES = ("cache", "plain", "inclusive", "victim")
CATALOG = tuple([("cache", named(title, lines)) for title in ("lru", "fifo", "mru") for lines in (1, 2, 3)])

# 624 pairs of states, behind any history.
GREAT = (hit_counter(26), miss_counter(24))


def log_of(device, names):
    """Return the log of a device."""
    return tuple(zip(names, reference.answers(device, names)))


def wrong_logs():
    """Return values that are no logs, each with the index that tells it."""
    found = [(value, None) for value in odd_values() if not isinstance(value, tuple)]
    found += [([("a", True)], None), ((("a", False),) * 2001, None), ((1,) * 2001, None), (("a", True), 0)]
    right = ("a", False)
    pairs = [(name, True) for name in wrong_names()] + [("a", odd) for odd in odd_values() if not isinstance(odd, bool)]
    pairs += [("a", 0), ("a", 1), (True, "a"), ("a",), ("a", True, True), ["a", True], (), "ab", ("a", (True,))]
    pairs += [odd for odd in odd_values()]
    for pair in pairs:
        found += [((pair,), 0), ((right, right, pair, pair, right), 2), ((right,) * 3 + (pair,), 3)]
    found += [((right,) * 1999 + (("a", 0),), 1999), ((("a", 1),) + (right,) * 1999, 0), ((1,) * 2000, 0)]
    return found


def wrong_device_tuples():
    """Return values that are no tuples of devices, each with the index that tells it."""
    right = ("cache", LRU)
    found = [(value, None) for value in odd_values() if not isinstance(value, tuple)]
    found += [((), None), ([right], None), ((right,) * 21, None), ((1,) * 21, None), (right, 0), (LRU, 0), ((LRU,), 0)]
    for device in list(wrong_devices()) + odd_values():
        found += [((device,), 0), ((right, device, device), 1), ((right,) * 19 + (device,), 19)]
    return found


def searched(devices, log, length):
    """Return the length of the shortest history behind a log that tells two devices apart, by a search, or None.

    As names go all those that are held, and one that none of the devices holds.
    """
    names = [name for name, answer in log]
    machines = [reference.run(device, names) for device in devices]
    machines = [machine for machine, told in machines if told == tuple([answer for name, answer in log])]
    row = [machines]
    for count in range(1, length + 1):
        later = []
        for group in row:
            held = dict.fromkeys(name for machine in group for name in machine.place()[1] if name is not None)
            new = next((name for name in reference.spare_names() if name not in held))
            for name in [*held, new]:
                twins = [machine.twin() for machine in group]
                if len({machine.request(name) for machine in twins}) == 2:
                    return count
                later.append(twins)
        row = later
    return None


class AgreesTest(unittest.TestCase):

    def test_against_answers(self):
        chance = random.Random(1)
        found = []
        for mode in MODES:
            for _ in range(60):
                device = random_device(chance, mode, 3, 4)
                names = random_history(chance, "abcde", chance.randint(1, 12))
                log = log_of(device, names)
                self.assertIs(agrees(device, log), True)
                for at in range(len(log)):
                    changed = log[:at] + ((log[at][0], not log[at][1]),) + log[at + 1:]
                    self.assertIs(agrees(device, changed), False)
                other = random_device(chance, chance.choice(MODES), 3, 4)
                found.append(agrees(other, log))
                self.assertIs(found[-1], answers(other, names) == answers(device, names))
        self.assertGreater(found.count(True), 10)
        self.assertGreater(found.count(False), 10)

    def test_all_short_logs(self):
        for device in small_devices():
            for length in range(4):
                for names in itertools.product("ab", repeat=length):
                    for told in itertools.product((False, True), repeat=length):
                        log = tuple(zip(names, told))
                        self.assertIs(agrees(device, log), reference.answers(device, names) == told)

    def test_the_empty_log(self):
        for device in right_devices():
            self.assertIs(agrees(device, ()), True)
            self.assertIs(agrees(device=device, log=()), True)

    def test_2000_pairs(self):
        device = ("cache", lru(2))
        log = log_of(device, ("a", "b", "c", "b") * 500)
        self.assertEqual(len(log), 2000)
        self.assertIs(agrees(device, log), True)
        self.assertIs(agrees(device, log[:-1] + (("b", False),)), False)
        check_refused(self, InvalidLog, {"index": None}, agrees, device, log + (("b", False),))

    def test_wrong_inputs(self):
        wrong = {
            "device": values_told(InvalidDevice, [("cache", [LRU]), *wrong_devices(), *odd_values()]),
            "log": indexes_told(InvalidLog, [(["a"], None), *wrong_logs()]),
        }
        check_parameters(self, agrees, ("device", "log"), (("cache", LRU), (("a", False),)), wrong)


class PossibleTest(unittest.TestCase):

    def test_against_answers(self):
        chance = random.Random(2)
        found = set()
        for _ in range(80):
            devices = tuple([random_device(chance, chance.choice(MODES), 3, 4) for _ in range(chance.randint(1, 8))])
            names = random_history(chance, "abcd", chance.randint(0, 8))
            log = log_of(chance.choice(devices), names)
            told = tuple([answer for name, answer in log])
            right = tuple([at for at, device in enumerate(devices) if reference.answers(device, names) == told])
            self.assertEqual(possible(devices, log), right)
            self.assertIs(possible(devices=devices, log=log).__class__, tuple)
            found.add(len(right))
        self.assertGreater(len(found), 4)

    def test_by_hand(self):
        self.assertEqual(possible(CATALOG, ()), tuple(range(9)))
        self.assertEqual(possible(CATALOG, (("a", True),)), ())
        self.assertEqual(possible(CATALOG, (("a", False), ("b", False), ("a", True))), (1, 2, 4, 5, 7, 8))
        self.assertEqual(possible(CATALOG, (("a", False), ("b", False), ("a", False))), (0, 3, 6))
        same = (("cache", lru(2)),) * 20
        self.assertEqual(possible(same, ()), tuple(range(20)))
        self.assertEqual(possible(same[:1], (("a", False),)), (0,))


class TellingTest(unittest.TestCase):

    def check(self, devices, log, length):
        """Check what is told against a search over the histories with up to so many names behind the log."""
        told = telling(devices, log)
        right = searched(devices, log, length)
        if told is None:
            self.assertIsNone(right)
            return None
        self.assertIs(told.__class__, tuple)
        if right is None:
            self.assertGreater(len(told), length)
        else:
            self.assertEqual(len(told), right)
        names = tuple([name for name, answer in log])
        agreeing = [devices[at] for at in possible(devices, log)]
        ends = [reference.answers(device, names + told) for device in agreeing]
        self.assertEqual(len({end[-1] for end in ends}), 2)
        self.assertGreaterEqual(len(told), 1)
        for name in told:
            self.assertRegex(name, r"\A[a-z]{1,6}\Z")
        return len(told)

    def test_against_a_search(self):
        chance = random.Random(3)
        found = []
        for _ in range(60):
            devices = tuple([random_device(chance, chance.choice(MODES), 2, 2) for _ in range(chance.randint(1, 4))])
            log = log_of(chance.choice(devices), random_history(chance, "abc", chance.randint(0, 5)))
            try:
                found.append(self.check(devices, log, 3))
            except TooManySituations:
                found.append("many")
        self.assertIn(None, found)
        self.assertGreater(found.count(1), 5)
        self.assertGreater(found.count(2), 2)

    def test_of_the_catalog(self):
        chance = random.Random(4)
        for names in ((), ("a",), ("a", "b"), ("a", "b", "a"), ("x", "y", "x", "z"), ("b", "a", "c", "a", "b")):
            for device in CATALOG:
                self.check(tuple(chance.sample(CATALOG, 3)), log_of(device, names), 4)
        self.assertEqual(len(telling((("cache", lru(2)), ("cache", fifo(2))), ())), 5)
        log = log_of(("cache", lru(2)), ("a", "b", "a"))
        self.assertEqual(len(telling((("cache", lru(2)), ("cache", fifo(2))), log)), 2)
        log += (("c", False),)
        self.assertIn(telling((("cache", lru(2)), ("cache", fifo(2))), log), (("a",), ("b",)))

    def test_the_shortest_of_several_pairs(self):
        devices = (("cache", lru(2)), ("cache", fifo(2)), ("cache", lru(1)))
        self.assertEqual(len(telling(devices, ())), 3)
        self.assertEqual(len(telling(devices[::-1], ())), 3)
        self.assertEqual(len(telling(devices[:2], ())), 5)
        for order in itertools.permutations(devices + (("cache", mru(3)),)):
            self.assertEqual(len(telling(order, ())), 3)

    def test_none(self):
        one = ("cache", lru(2))
        alike = ("cache", LRU)
        self.assertIsNone(telling((one,), ()))
        self.assertIsNone(telling((one, one), ()))
        self.assertIsNone(telling((one, alike, one), (("a", False), ("a", True))))
        # No device agrees, or one alone.
        self.assertIsNone(telling((one, ("cache", fifo(2))), (("a", True),)))
        log = (("a", False), ("b", False), ("a", True), ("c", False), ("b", True))
        self.assertEqual(possible((one, ("cache", fifo(2))), log), (1,))
        self.assertIsNone(telling((one, ("cache", fifo(2))), log))

    def test_devices_that_do_not_agree_do_not_count(self):
        devices = (("cache", lru(2)), ("cache", LRU), ("cache", lru(1)), ("cache", fifo(2)))
        log = log_of(devices[0], ("a", "b", "a", "c", "a"))
        self.assertEqual(possible(devices, log), (0, 1))
        self.assertIsNone(telling(devices, log))
        # Not even if there would be too many situations with them.
        devices = (*GREAT, ("cache", lru(2)))
        log = (("a", False), ("b", False))
        check_refused(self, TooManySituations, {"limit": 600}, telling, devices, log)
        self.assertEqual(possible(devices, log + (("a", True),)), (2,))
        self.assertIsNone(telling(devices, log + (("a", True),)))
        self.assertIsNone(telling(devices, log + (("a", True), ("a", False))))

    def test_names_of_the_log(self):
        chance = random.Random(6)
        devices = (("cache", lru(2)), ("cache", fifo(2)))
        for names in (("zz", "yy", "zz"), ("abcdef", "b", "abcdef", "b"), ("c", "a", "c", "a", "b"), ("b", "a")):
            log = log_of(devices[0], names)
            told = telling(devices, log)
            ends = [reference.answers(device, names + told)[-1] for device in devices]
            self.assertNotEqual(*ends)
        for _ in range(40):
            log = log_of(devices[0], random_history(chance, ["a", "b", "z", "zz", "aa", "q"], chance.randint(0, 9)))
            if possible(devices, log) == (0, 1):
                self.check(devices, log, 3)

    def test_600_and_601_situations(self):
        self.assertIsNone(telling(PAIR_600, ()))
        check_refused(self, TooManySituations, {"limit": 600}, telling, PAIR_601, ())
        # Behind the first request the empty lines do not come again, so there are 600 then.
        self.assertIsNone(telling(PAIR_601, (("a", False),)))
        self.assertIsNone(telling((*PAIR_601, PAIR_601[0]), (("a", False), ("a", True))))
        # Here 601 can be reached from behind the first request on, and 600 from behind the second one.
        late = (hit_counter(25, 2), miss_counter(24))
        check_refused(self, TooManySituations, {"limit": 600}, telling, late, (("a", False),))
        self.assertIsNone(telling(late, (("a", False), ("a", True))))
        # Behind any number of requests all 624 pairs of states can be reached.
        for count in range(4):
            log = log_of(GREAT[0], ("a",) * count)
            check_refused(self, TooManySituations, {"limit": 600}, telling, GREAT, log)

    def test_too_many_situations_though_there_is_such_a_history(self):
        devices = (*PAIR_601, ("cache", lru(2)))
        check_refused(self, TooManySituations, {"limit": 600}, telling, devices, ())
        check_refused(self, TooManySituations, {"limit": 600}, telling, devices[::-1], ())
        check_refused(self, TooManySituations, {"limit": 600}, telling, devices=(devices[0], devices[2], devices[1]), log=())
        # After all others.
        check_refused(self, InvalidLog, {"index": 0}, telling, devices, (("a", 0),))
        check_refused(self, InvalidDevices, {"index": 3}, telling, devices + (1,), ())

    def test_one_and_20_devices(self):
        self.assertIsNone(telling((counter(64),), ()))
        many = (("cache", lru(2)),) * 19 + (("cache", fifo(2)),)
        self.assertEqual(len(telling(many, ())), 5)
        self.assertIsNone(telling(many[:19], ()))

    def test_wrong_inputs(self):
        wrong = {
            "devices": indexes_told(InvalidDevices, [([], None), *wrong_device_tuples()]),
            "log": indexes_told(InvalidLog, [(["a"], None), *wrong_logs()]),
        }
        for function in (possible, telling):
            right = ((("cache", LRU), ("cache", LRU)), (("a", False),))
            check_parameters(self, function, ("devices", "log"), right, wrong)

    def test_the_same_again_and_nothing_modified(self):
        devices, log = (("cache", lru(2)), ("cache", fifo(2)), ("victim", lru(1), lru(1))), (("a", False), ("b", False))
        before = copy.deepcopy((devices, log))
        self.assertEqual(telling(devices, log), telling(devices=copy.deepcopy(devices), log=copy.deepcopy(log)))
        self.assertEqual(possible(devices, log), possible(devices, log))
        self.assertEqual((devices, log), before)

    def test_example(self):
        run_example(self, '''
            >>> from missbounds.catalog import fifo, lru, mru
            >>> from missbounds.logs import agrees, possible, telling
            >>> devices = (("cache", lru(2)), ("cache", fifo(2)), ("cache", mru(2)))
            >>> log = (("a", False), ("b", False), ("a", True))
            >>> [possible(devices, log), possible(devices, log + (("c", False), ("a", True))), agrees(devices[1], log + (("c", False), ("b", True))), len(telling(devices, log)), telling(devices[:1], log)]
            [(0, 1, 2), (0,), True, 2, None]
        ''')


if __name__ == "__main__":
    unittest.main()
