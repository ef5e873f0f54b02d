import copy
import random
import unittest

import reference
from helper import Prickly, nested, odd_values, run_example
from missbounds.caches import Cache, LoggedCache, ValueCache
from missbounds.catalog import fifo, lru, named
from missbounds.errors import (
    InvalidDevice, InvalidHistory, InvalidLines, InvalidName, TooManyRequests, UnknownName,
)
from missbounds.logs import agrees
from missbounds.situations import situation_of
from missbounds.traces import answers, count_misses
from refused import check_parameters, check_refused, values_told
from samples import (
    FOUR, LRU, ONE, THREE, random_device, random_history, right_devices, small_devices, wrong_devices, wrong_names,
)

MODES = ("cache", "plain", "inclusive", "victim")
CLASSES = (Cache, LoggedCache)


def upper(name):
    return name.upper()


def ignore(name, value):
    return None


def made(sort, device):
    """Return a new cache of a class."""
    return sort(device, upper, ignore) if sort is ValueCache else sort(device)


def every_class():
    return CLASSES + (ValueCache,)


def shown(cache):
    """Return all that a cache tells."""
    rest = [cache.log] if isinstance(cache, LoggedCache) else []
    if isinstance(cache, ValueCache):
        rest = [cache.changed, [cache.value_of(name) for name in cache.held]]
    return [cache.device, cache.states, cache.levels, cache.held, cache.hits, cache.misses, len(cache), repr(cache), rest]


class CacheTest(unittest.TestCase):

    def check(self, cache, machine, told):
        """Check what a cache tells against a machine, and the answers since the beginning."""
        self.assertEqual(cache.states, tuple(machine.states))
        self.assertEqual(cache.levels, tuple([tuple(level) for level in machine.lines]))
        held = sorted({name for level in machine.lines for name in level if name is not None})
        self.assertEqual(cache.held, tuple(held))
        self.assertEqual((cache.hits, cache.misses), (told.count(True), told.count(False)))
        self.assertEqual(len(cache), len(held))
        self.assertEqual(repr(cache), f"{cache.__class__.__name__}({len(held)} held)")
        for name in "abcdefg":
            self.assertIs(name in cache, name in held)

    def test_step_by_step(self):
        chance = random.Random(1)
        for mode in MODES:
            for _ in range(25):
                device = random_device(chance, mode)
                for sort in every_class():
                    cache = made(sort, device)
                    machine, told = reference.Machine(device), []
                    self.check(cache, machine, told)
                    for name in random_history(chance, "abcdefg", 25):
                        told.append(machine.request(name))
                        self.assertIs(cache.request(name), told[-1])
                        self.check(cache, machine, told)
                    self.assertEqual(cache.device, device)

    def test_against_answers_and_situations(self):
        chance = random.Random(2)
        for mode in MODES:
            for _ in range(25):
                device, other = random_device(chance, mode), random_device(chance, chance.choice(MODES))
                names = random_history(chance, ["a", "b", "zz", "abcdef", "c", "d"], 20)
                cache, second = Cache(device), LoggedCache(other)
                self.assertEqual(cache.request_all(*names), answers(device, names))
                self.assertEqual(second.request_all(*names), answers(other, names))
                self.assertEqual(cache.misses, count_misses(device, names))
                self.assertTrue(agrees(other, second.log))
                states, contents = situation_of(device, other, names)
                self.assertEqual(cache.states + second.states, states)
                held = [name for level in cache.levels + second.levels for name in level]
                order = list(dict.fromkeys([name for name in held if name is not None]))
                self.assertEqual(tuple([None if name is None else order.index(name) for name in held]), contents)

    def test_kinds_of_results(self):
        for device in right_devices():
            for sort in CLASSES:
                cache = sort(device=device)
                self.assertIs(cache.request(name="abc"), False)
                self.assertIs(cache.request("abc"), True)
                self.assertEqual((cache.device, cache.hits, cache.misses), (device, 1, 1))
                for value in (cache.states, cache.levels, cache.held, *cache.levels):
                    self.assertIs(value.__class__, tuple)
                self.assertEqual(len(cache.levels), len(device) - 1)
                self.assertEqual([len(level) for level in cache.levels], [policy[0] for policy in device[1:]])

    def test_the_same_name_in_both_levels_is_held_once(self):
        cache = Cache(("plain", lru(1), lru(2)))
        cache.request("a")
        self.assertEqual((cache.levels, cache.held, len(cache)), ((("a",), ("a", None)), ("a",), 1))
        self.assertEqual(repr(cache), "Cache(1 held)")

    def test_modes(self):
        for sort in every_class():
            self.assertEqual(sort.MODES, MODES)
            self.assertEqual(made(sort, ("cache", ONE)).MODES, MODES)

    def test_request_all(self):
        for sort in every_class():
            cache = made(sort, ("cache", lru(2)))
            before = shown(cache)
            self.assertEqual(cache.request_all(), ())
            self.assertEqual(shown(cache), before)
            self.assertEqual(cache.request_all("b", "a", "b", "c", "a"), (False, False, True, False, False))
            self.assertEqual(cache.held, ("a", "c"))

    def test_request_all_with_a_wrong_name(self):
        for sort in every_class():
            for wrong in [value for value in odd_values() if not isinstance(value, str)] + wrong_names():
                cache = made(sort, ("victim", lru(1), lru(1)))
                cache.request_all("a", "b")
                before = shown(cache)
                for at in range(4):
                    names = ["c", "a", "d"]
                    names.insert(at, wrong)
                    check_refused(self, InvalidHistory, {"index": at}, cache.request_all, *names)
                check_refused(self, InvalidHistory, {"index": 1}, cache.request_all, "x", wrong, wrong)
                self.assertEqual(shown(cache), before)

    def test_request_all_with_2000_names_and_more(self):
        for sort in every_class():
            cache = made(sort, ("cache", lru(2)))
            names = ("a", "b", "c") * 667
            check_refused(self, InvalidHistory, {"index": None}, cache.request_all, *names)
            self.assertEqual(cache.misses, 0)
            self.assertEqual(cache.request_all(*names[:2000]), (False,) * 2000)
            self.assertEqual(cache.misses, 2000)

    def test_request_with_a_wrong_name(self):
        for sort in every_class():
            cache = made(sort, ("cache", lru(2)))
            cache.request("a")
            before = shown(cache)
            for wrong in wrong_names() + [nested("a", 99), Prickly()]:
                check_refused(self, InvalidName, {"value": wrong}, cache.request, wrong)
                check_refused(self, InvalidName, {"value": wrong}, cache.request, name=wrong)
            self.assertEqual(shown(cache), before)

    def test_reset(self):
        chance = random.Random(3)
        for mode in MODES:
            for sort in every_class():
                device = random_device(chance, mode)
                cache, new = made(sort, device), made(sort, device)
                self.assertIsNone(cache.reset())
                self.assertEqual(shown(cache), shown(new))
                names = random_history(chance, "abcd", 12)
                first = cache.request_all(*names)
                self.assertIsNone(cache.reset())
                self.assertEqual(shown(cache), shown(new))
                self.assertEqual(cache, new)
                self.assertEqual(cache.request_all(*names), first)

    def test_twin(self):
        chance = random.Random(4)
        for mode in MODES:
            for sort in every_class():
                device = random_device(chance, mode)
                cache = made(sort, device)
                names = random_history(chance, "abcde", 12)
                cache.request_all(*names)
                twin = cache.twin()
                self.assertIs(twin.__class__, sort)
                self.assertIsNot(twin, cache)
                self.assertEqual(shown(twin), shown(cache))
                self.assertEqual(twin, cache)
                before = shown(cache)
                twin.request_all("x", "y", "z", "x")
                self.assertEqual(shown(cache), before)
                self.assertEqual(reference.answers(device, names + ("x", "y", "z", "x")).count(False), twin.misses)
                before = shown(twin)
                cache.reset()
                self.assertEqual(shown(twin), before)
                self.assertEqual(shown(twin.twin().twin()), before)

    def test_in_with_any_value(self):
        for sort in every_class():
            cache = made(sort, ("cache", lru(2)))
            for value in odd_values() + wrong_names() + [Prickly(), nested((), 99), None]:
                self.assertIs(value in cache, False)
            cache.request_all("a", "bb")
            for value in odd_values() + wrong_names() + ["b", "c", "aa", ("a",), 0]:
                self.assertIs(value in cache, False)
                self.assertIs(value not in cache, True)
            self.assertIs("a" in cache, True)
            self.assertIs("bb" in cache, True)

    def test_wrong_devices(self):
        values = [LRU, *wrong_devices(), *odd_values(), nested(("cache", LRU), 90)]
        for sort in CLASSES:
            check_parameters(self, sort, ("device",), (("cache", LRU),), {"device": values_told(InvalidDevice, values)})

    def test_nothing_is_modified(self):
        for device in small_devices():
            before = copy.deepcopy(device)
            cache = Cache(device)
            cache.request_all("a", "b", "c", "a")
            cache.reset()
            self.assertEqual(device, before)

    def test_nothing_has_its_own_result(self):
        cache = Cache(("cache", lru(2)))
        told = cache.request_all("a", "b")
        levels = cache.levels
        cache.request("c")
        self.assertEqual((told, levels), ((False, False), (("a", "b"),)))


class NamedTest(unittest.TestCase):

    def test_as_named(self):
        for sort in CLASSES:
            for title in ("lru", "mru", "fifo", "lifo", "clock", "bits", "plru"):
                for lines in (1, 2, 3, 4):
                    if (title, lines) != ("plru", 3):
                        cache = sort.named(title, lines)
                        self.assertIs(cache.__class__, sort)
                        self.assertEqual(cache.device, ("cache", named(title, lines)))
                        self.assertEqual((cache.held, cache.hits, cache.misses), ((), 0, 0))
                        self.assertEqual(sort.named(title=title, lines=lines), cache)
            self.assertEqual(sort.named("lru", 1).named("fifo", 2), sort.named("fifo", 2))
        self.assertEqual(LoggedCache.named("lru", 2).log, ())

    def test_wrong_inputs(self):
        wrong = {
            "title": [(value, UnknownName, {"name": value}) for value in ["LRU", "lru ", "named", "cache", *odd_values()]],
            "lines": values_told(InvalidLines, [0, 5, 10 ** 39, (2,), "2", *odd_values()]),
        }
        for sort in CLASSES:
            check_parameters(self, sort.named, ("title", "lines"), ("lru", 2), wrong)
            check_refused(self, InvalidLines, {"value": 3}, sort.named, "plru", 3)


class EqualityTest(unittest.TestCase):

    def test_different_histories_with_the_same_lines(self):
        for sort in CLASSES:
            one, other = sort.named("lru", 2), sort.named("lru", 2)
            one.request_all("a", "b", "c", "d")
            other.request_all("c", "x", "d", "c", "d")
            self.assertEqual(one.held, other.held)
            # Numbers and logs do not count; states do, and which line a name is in.
            self.assertEqual(one.states == other.states and one.levels == other.levels, one == other)
            other.reset()
            other.request_all("e", "f", "c", "d", "d", "d")
            self.assertNotEqual((one.hits, one.misses), (other.hits, other.misses))
            self.assertEqual((one.states, one.levels), (other.states, other.levels))
            self.assertIs(one == other, True)
            self.assertIs(one != other, False)

    def test_states_and_lines_count(self):
        policy = (2, ((0, 1, (1, 0)), (1, 0, (1, 1))))
        one, other = Cache(("cache", policy)), Cache(("cache", policy))
        one.request_all("a", "b")
        other.request_all("a", "b", "a")
        self.assertEqual(one.levels, other.levels)
        self.assertIs(one == other, False)
        self.assertIs(one != other, True)
        one, other = Cache(("cache", FOUR)), Cache(("cache", FOUR))
        one.request("a")
        other.request("b")
        self.assertEqual(one.states, other.states)
        self.assertIs(one == other, False)

    def test_devices_count(self):
        self.assertNotEqual(Cache(("cache", LRU)), Cache(("cache", fifo(2))))
        self.assertNotEqual(Cache(("plain", ONE, ONE)), Cache(("inclusive", ONE, ONE)))
        # Two devices that are alike are two devices.
        self.assertNotEqual(Cache(("cache", LRU)), Cache(("cache", lru(2))))
        self.assertEqual(Cache(("cache", LRU)), Cache(copy.deepcopy(("cache", LRU))))

    def test_between_classes(self):
        device = ("cache", THREE)
        caches = [made(sort, device) for sort in every_class()]
        for names in ((), ("a", "b")):
            for cache in caches:
                cache.request_all(*names)
            for at, one in enumerate(caches):
                for place, other in enumerate(caches):
                    self.assertIs(one == other, at == place)
                    self.assertIs(one != other, at != place)

    def test_values_of_other_kinds(self):
        for sort in every_class():
            cache = made(sort, ("cache", LRU))
            others = odd_values() + [device for device in small_devices()] + ["Cache(0 held)", ("cache", LRU)]
            for value in [value for value in others if not isinstance(value, Prickly)]:
                self.assertIs(cache == value, False)
                self.assertIs(cache != value, True)
                self.assertIs(value == cache, False)
            self.assertIs(cache == Prickly(), False)


class LoggedTest(unittest.TestCase):

    def test_the_log(self):
        chance = random.Random(5)
        for mode in MODES:
            device = random_device(chance, mode)
            cache = LoggedCache(device)
            self.assertEqual(cache.log, ())
            names = random_history(chance, "abcde", 30)
            told = reference.answers(device, names)
            for at, name in enumerate(names):
                cache.request(name)
                self.assertEqual(cache.log, tuple(zip(names[:at + 1], told)))
            cache.request_all("a", "b")
            more = reference.answers(device, names + ("a", "b"))
            self.assertEqual(cache.log, tuple(zip(names + ("a", "b"), more)))
            self.assertTrue(agrees(device, cache.log))
            cache.reset()
            self.assertEqual(cache.log, ())
            cache.request("a")
            self.assertEqual(cache.log, (("a", False),))

    def test_the_log_of_a_twin(self):
        cache = LoggedCache.named("fifo", 2)
        cache.request_all("a", "b")
        twin = cache.twin()
        twin.request("a")
        cache.request("c")
        self.assertEqual(twin.log, (("a", False), ("b", False), ("a", True)))
        self.assertEqual(cache.log, (("a", False), ("b", False), ("c", False)))

    def test_2000_requests(self):
        cache = LoggedCache.named("lru", 2)
        cache.request_all(*("a", "b", "c") * 666, "a")
        self.assertEqual(len(cache.log), 1999)
        check_refused(self, TooManyRequests, {"limit": 2000}, cache.request_all, "b", "c")
        self.assertEqual(len(cache.log), 1999)
        cache.request("b")
        self.assertEqual(len(cache.log), 2000)
        before = shown(cache)
        check_refused(self, TooManyRequests, {"limit": 2000}, cache.request, "a")
        check_refused(self, TooManyRequests, {"limit": 2000}, cache.request_all, "a")
        check_refused(self, TooManyRequests, {"limit": 2000}, cache.request_all, *["a"] * 2000)
        self.assertEqual(cache.request_all(), ())
        # After all others.
        check_refused(self, InvalidName, {"value": "A"}, cache.request, "A")
        check_refused(self, InvalidHistory, {"index": 1}, cache.request_all, "a", "A")
        check_refused(self, InvalidHistory, {"index": None}, cache.request_all, *["a"] * 2001)
        self.assertEqual(shown(cache), before)
        check_refused(self, TooManyRequests, {"limit": 2000}, cache.twin().request, "a")
        cache.reset()
        self.assertIs(cache.request("a"), False)

    def test_2000_requests_at_once(self):
        cache = LoggedCache.named("lru", 1)
        self.assertEqual(len(cache.request_all(*["a"] * 2000)), 2000)
        self.assertEqual((cache.hits, len(cache.log)), (1999, 2000))
        other = LoggedCache.named("lru", 1)
        other.request("a")
        check_refused(self, TooManyRequests, {"limit": 2000}, other.request_all, *["a"] * 2000)
        self.assertEqual((other.misses, other.hits, other.log), (1, 0, (("a", False),)))
        other.request_all(*["a"] * 1999)
        self.assertEqual(other.log, cache.log)

    def test_other_caches_go_on(self):
        cache = Cache.named("lru", 1)
        for _ in range(2):
            cache.request_all(*["a", "b"] * 1000)
        self.assertEqual(cache.misses, 4000)

    def test_is_a_cache(self):
        self.assertTrue(issubclass(LoggedCache, Cache))
        self.assertTrue(issubclass(ValueCache, Cache))
        for word in ("request", "request_all"):
            self.assertIn(word, vars(LoggedCache))

    def test_example(self):
        run_example(self, '''
            >>> from missbounds.caches import Cache, LoggedCache, ValueCache
            >>> from missbounds.catalog import lru
            >>> cache = Cache.named("lru", 2)
            >>> first = [cache.request_all("a", "b", "a", "c"), cache.levels, cache.held, cache.misses, "b" in cache, repr(cache)]
            >>> logged = LoggedCache(("cache", lru(1)))
            >>> first + [logged.request("x"), logged.request("x"), logged.log]
            [(False, False, True, False), (('a', 'c'),), ('a', 'c'), 3, False, 'Cache(2 held)', False, True, (('x', False), ('x', True))]
        ''')


if __name__ == "__main__":
    unittest.main()
