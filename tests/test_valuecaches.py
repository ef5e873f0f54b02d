import random
import unittest

import reference
from helper import odd_values, run_example
from missbounds.caches import Cache, ValueCache
from missbounds.catalog import fifo, lru
from missbounds.errors import (
    Busy, InvalidDevice, InvalidFunction, InvalidHistory, InvalidName, UnknownName,
)
from refused import check_parameters, check_refused, values_told
from samples import ONE, random_device, wrong_devices, wrong_names

MODES = ("cache", "plain", "inclusive", "victim")
NOT_FUNCTIONS = [None, True, False, 0, 1, -1, 10 ** 39, "", "len", (), (1,), ((),), [], [len], {}, {"a": len}]
BOTH = ("victim", lru(1), fifo(1))


class Broken(Exception):
    """What a function of a test raises."""


class Shop:
    """Functions that load and store, with a list of their calls. The call with the number `breaks` raises."""

    def __init__(self, breaks=None):
        self.calls = []
        self.breaks = breaks
        self.during = None
        self.cache = None

    def load(self, name):
        self.note(("load", name))
        return "loaded " + name

    def store(self, name, value):
        self.note(("store", name, value))
        return "whatever"

    def note(self, call):
        self.calls.append(call)
        if self.during is not None:
            self.during(self.cache, call)
        if len(self.calls) - 1 == self.breaks:
            raise Broken(call)

    def open(self, device):
        """Return a cache with these functions."""
        self.cache = ValueCache(device, self.load, self.store)
        return self.cache


class Shelf:
    """A slow account of a cache that keeps values, apart from the package."""

    def __init__(self, device):
        self.machine = reference.Machine(device)
        self.worth = {}
        self.changed = set()
        self.calls = []

    def leaving(self, name):
        twin = self.machine.twin()
        twin.request(name)
        return [other for other in sorted(self.changed) if not twin.holds(other)]

    def fetch(self, name):
        if not self.machine.holds(name):
            self.calls.append(("load", name))
        value = self.worth[name] if self.machine.holds(name) else "loaded " + name
        self.take(name, value)
        return value

    def put(self, name, value):
        told = self.take(name, value)
        self.changed.add(name)
        return told

    def take(self, name, value):
        for other in self.leaving(name):
            self.calls.append(("store", other, self.worth[other]))
            self.changed.discard(other)
        told = self.machine.request(name)
        self.worth[name] = value
        self.worth = {other: value for other, value in self.worth.items() if self.machine.holds(other)}
        return told

    def flush(self):
        for name in sorted(self.changed):
            self.calls.append(("store", name, self.worth[name]))
        self.changed = set()


def shown(cache):
    """Return all that a cache tells."""
    values = {name: cache.value_of(name) for name in cache.held}
    return [cache.states, cache.levels, cache.held, cache.hits, cache.misses, len(cache), repr(cache), cache.changed, values]


def filled(shop, device=("cache", lru(2))):
    """Return a cache in which the value of a is changed, and that of b is not."""
    cache = shop.open(device)
    cache.put("a", 1)
    cache.fetch("b")
    return cache


class ValueTest(unittest.TestCase):

    def check(self, cache, shelf, shop):
        self.assertEqual(shop.calls, shelf.calls)
        self.assertEqual(cache.changed, tuple(sorted(shelf.changed)))
        self.assertEqual(cache.held, tuple(sorted(shelf.worth)))
        self.assertEqual((cache.states, cache.levels), (
            tuple(shelf.machine.states), tuple([tuple(level) for level in shelf.machine.lines])))
        for name in "abcdefg":
            if name in shelf.worth:
                self.assertEqual(cache.value_of(name), shelf.worth[name])
            else:
                check_refused(self, UnknownName, {"name": name}, cache.value_of, name)

    def test_step_by_step(self):
        chance = random.Random(1)
        for mode in MODES:
            for _ in range(40):
                device = random_device(chance, mode)
                shop, shelf = Shop(), Shelf(device)
                cache = shop.open(device)
                for turn in range(30):
                    name = chance.choice("abcdefg")
                    deed = chance.choice(("fetch", "fetch", "put", "put", "request", "all", "flush"))
                    if deed == "fetch":
                        self.assertEqual(cache.fetch(name), shelf.fetch(name))
                    elif deed == "put":
                        self.assertIs(cache.put(name, turn), shelf.put(name, turn))
                    elif deed == "request":
                        held = shelf.machine.holds(name)
                        shelf.fetch(name)
                        self.assertIs(cache.request(name), held)
                    elif deed == "all":
                        names = [chance.choice("abcdefg") for _ in range(chance.randint(0, 3))]
                        told = []
                        for other in names:
                            told.append(shelf.machine.holds(other))
                            shelf.fetch(other)
                        self.assertEqual(cache.request_all(*names), tuple(told))
                    elif chance.random() < 0.4:
                        self.assertIsNone(cache.flush())
                        shelf.flush()
                    self.check(cache, shelf, shop)

    def test_no_value_is_lost(self):
        chance = random.Random(2)
        for mode in MODES:
            for _ in range(20):
                store = {}
                last = {}
                cache = ValueCache(random_device(chance, mode), lambda name: store.get(name, 0), store.__setitem__)
                for turn in range(1, 60):
                    name = chance.choice("abcdefgh")
                    if chance.random() < 0.5:
                        cache.put(name, turn)
                        last[name] = turn
                    else:
                        self.assertEqual(cache.fetch(name), last.get(name, 0))
                cache.flush()
                self.assertEqual(store, last)

    def test_fetch(self):
        shop = Shop()
        cache = shop.open(("cache", lru(2)))
        self.assertEqual(cache.fetch("a"), "loaded a")
        self.assertEqual(cache.fetch(name="a"), "loaded a")
        self.assertEqual(shop.calls, [("load", "a")])
        self.assertEqual((cache.hits, cache.misses, cache.changed), (1, 1, ()))

    def test_put(self):
        shop = Shop()
        cache = shop.open(("cache", lru(1)))
        self.assertIs(cache.put("a", 1), False)
        self.assertIs(cache.put(name="a", value=2), True)
        self.assertEqual((cache.fetch("a"), cache.changed, shop.calls), (2, ("a",), []))
        self.assertIs(cache.put("b", 3), False)
        self.assertEqual((shop.calls, cache.changed, cache.held), ([("store", "a", 2)], ("b",), ("b",)))
        # A name that comes back is loaded again, and one that was loaded and is put is changed.
        self.assertEqual(cache.fetch("a"), "loaded a")
        self.assertEqual(shop.calls[1:], [("load", "a"), ("store", "b", 3)])
        self.assertIs(cache.put("a", 4), True)
        self.assertEqual(cache.changed, ("a",))

    def test_load_comes_before_store(self):
        shop = Shop()
        cache = shop.open(("cache", lru(1)))
        cache.put("z", 1)
        self.assertEqual(cache.fetch("b"), "loaded b")
        self.assertEqual(shop.calls, [("load", "b"), ("store", "z", 1)])

    def test_several_names_leave_at_once(self):
        # The lower line of an inclusive device takes the names in the upper level with it.
        device = ("inclusive", (2, ((0, 1, (0, 0)), (1, 1, (1, 1)))), (1, ((0, 0, (0,)),)))
        shop = Shop()
        cache = shop.open(device)
        cache.put("b", 1)
        cache.put("a", 2)
        self.assertEqual(shop.calls, [("store", "b", 1)])
        # A plain device whose upper victim is not the lower one.
        device = ("plain", (2, ((0, 1, (0, 0)), (1, 2, (1, 1)), (0, 2, (2, 2)))), (1, ((0, 0, (0,)),)))
        shop = Shop()
        cache = shop.open(device)
        for name in ("c", "b"):
            cache.put(name, name)
        cache.put("a", 0)
        self.assertEqual(shop.calls, [("store", "c", "c")])
        # Two names leave: the upper line takes what the lower one does not hold, and the lower one takes another.
        device = ("plain", (1, ((0, 0, (0,)),)), (2, ((0, 1, (0, 0)), (1, 0, (0, 0)))))
        shop = Shop()
        cache = shop.open(device)
        for name in ("d", "c", "d", "b", "a"):
            cache.put(name, name)
        self.assertEqual(sorted(cache.held), ["a", "b"])
        self.assertEqual([call[:2] for call in shop.calls], [("store", "d"), ("store", "c")])

    def test_two_names_leave_in_ascending_order(self):
        chance = random.Random(3)
        found = 0
        for _ in range(400):
            device = random_device(chance, chance.choice(("plain", "inclusive")), 3, 3)
            shop, shelf = Shop(), Shelf(device)
            cache = shop.open(device)
            for name in [chance.choice("abcdef") for _ in range(15)]:
                before = len(shop.calls)
                cache.put(name, name)
                shelf.put(name, name)
                gone = [call[1] for call in shop.calls[before:]]
                self.assertEqual(gone, sorted(gone))
                found += len(gone) > 1
            self.assertEqual(shop.calls, shelf.calls)
        self.assertGreater(found, 3)

    def test_names_that_move_between_the_levels_are_not_stored(self):
        shop = Shop()
        cache = shop.open(("victim", lru(1), fifo(1)))
        cache.put("a", 1)
        cache.put("b", 2)
        self.assertEqual(cache.levels, (("b",), ("a",)))
        cache.fetch("a")
        self.assertEqual(cache.levels, (("a",), ("b",)))
        self.assertEqual((shop.calls, cache.changed), ([], ("a", "b")))
        cache.fetch("c")
        # Only b leaves, by the lower level.
        self.assertEqual(cache.levels, (("c",), ("a",)))
        self.assertEqual(shop.calls, [("load", "c"), ("store", "b", 2)])

    def test_names_that_leave_by_the_lower_level_alone(self):
        shop = Shop()
        cache = shop.open(("plain", lru(1), lru(2)))
        cache.put("a", 1)
        cache.fetch("b")
        self.assertEqual((cache.levels, cache.changed), ((("b",), ("a", "b")), ("a",)))
        self.assertEqual(shop.calls, [("load", "b")])
        cache.fetch("c")
        self.assertEqual(shop.calls[1:], [("load", "c"), ("store", "a", 1)])

    def test_request(self):
        shop = Shop()
        cache = shop.open(("cache", lru(1)))
        self.assertIs(cache.request("a"), False)
        self.assertIs(cache.request(name="a"), True)
        self.assertEqual((shop.calls, cache.value_of("a")), ([("load", "a")], "loaded a"))
        cache.put("a", 1)
        self.assertEqual(cache.request_all("a", "b", "a"), (True, False, False))
        self.assertEqual(shop.calls[1:], [("load", "b"), ("store", "a", 1), ("load", "a")])

    def test_flush(self):
        shop = Shop()
        cache = shop.open(("cache", lru(3)))
        self.assertIsNone(cache.flush())
        for name, value in (("c", 1), ("a", 2), ("b", 3)):
            cache.put(name, value)
        before = shown(cache)
        self.assertIsNone(cache.flush())
        self.assertEqual(shop.calls, [("store", "a", 2), ("store", "b", 3), ("store", "c", 1)])
        self.assertEqual(cache.changed, ())
        self.assertEqual(shown(cache)[:7], before[:7])
        self.assertIsNone(cache.flush())
        self.assertEqual(len(shop.calls), 3)
        # What is stored is not changed any more, so nothing is stored when it leaves.
        cache.request_all("x", "y", "z")
        self.assertEqual([call[0] for call in shop.calls[3:]], ["load"] * 3)
        cache.put("x", 5)
        cache.flush()
        self.assertEqual(shop.calls[6:], [("store", "x", 5)])

    def test_value_of(self):
        shop = Shop()
        cache = filled(shop)
        before = shown(cache)
        self.assertEqual((cache.value_of("a"), cache.value_of(name="b")), (1, "loaded b"))
        self.assertEqual((shown(cache), len(shop.calls)), (before, 1))
        values = [(value, InvalidName, {"value": value}) for value in wrong_names()]
        check_parameters(self, cache.value_of, ("name",), ("a",), {"name": values})
        for name in ("c", "aa", "zzzzzz"):
            check_refused(self, UnknownName, {"name": name}, cache.value_of, name)

    def test_values_of_all_kinds(self):
        odd = object()
        for value in (None, True, 0, "", (), [], [1, [2]], {}, {"a": 1}, odd, len, Broken):
            shop = Shop()
            cache = shop.open(("cache", lru(1)))
            cache.put("a", value)
            self.assertIs(cache.fetch("a"), value)
            self.assertIs(cache.value_of("a"), value)
            self.assertEqual(cache.changed, ("a",))
            cache.fetch("b")
            self.assertIs(shop.calls[-1][2], value)
            again = ValueCache(("cache", lru(1)), lambda name: value, shop.store)
            self.assertIs(again.fetch("a"), value)
            self.assertIs(again.fetch("a"), value)
            self.assertEqual(again.changed, ())

    def test_none_is_loaded_once(self):
        calls = []
        cache = ValueCache(("cache", lru(1)), calls.append, calls.append)
        self.assertIsNone(cache.fetch("a"))
        self.assertIsNone(cache.fetch("a"))
        self.assertEqual(calls, ["a"])

    def test_reset(self):
        shop = Shop()
        cache = filled(shop)
        self.assertIsNone(cache.reset())
        self.assertEqual(shop.calls, [("load", "b")])
        self.assertEqual(shown(cache), shown(Shop().open(("cache", lru(2)))))
        self.assertEqual(cache.fetch("a"), "loaded a")

    def test_twin(self):
        shop = Shop()
        cache = filled(shop)
        twin = cache.twin()
        self.assertIs(twin.__class__, ValueCache)
        self.assertEqual(shown(twin), shown(cache))
        before = shown(cache)
        twin.put("c", 7)
        twin.put("b", 8)
        self.assertEqual(shown(cache), before)
        self.assertEqual(shop.calls, [("load", "b"), ("store", "a", 1)])
        before = shown(twin)
        cache.flush()
        cache.fetch("z")
        cache.reset()
        self.assertEqual(shown(twin), before)

    def test_wrong_names(self):
        cache = filled(Shop())
        before = shown(cache)
        values = [(value, InvalidName, {"value": value}) for value in wrong_names()]
        for method in (cache.fetch, cache.request):
            check_parameters(self, method, ("name",), ("a",), {"name": values})
            cache = cache.twin()
        self.assertEqual(shown(filled(Shop())), before)
        for value in wrong_names():
            check_refused(self, InvalidName, {"value": value}, cache.put, value, 5)
            check_refused(self, InvalidName, {"value": value}, cache.put, name=value, value=None)
            check_refused(self, InvalidHistory, {"index": 1}, cache.request_all, "c", value)

    def test_what_is_created_of(self):
        shop = Shop()
        wrong = {
            "device": values_told(InvalidDevice, [("cache", [ONE]), *wrong_devices(), *odd_values()]),
            "load": values_told(InvalidFunction, NOT_FUNCTIONS),
            "store": values_told(InvalidFunction, NOT_FUNCTIONS),
        }
        right = (("cache", ONE), shop.load, shop.store)
        check_parameters(self, ValueCache, ("device", "load", "store"), right, wrong)
        self.assertEqual(shop.calls, [])

    def test_functions_of_all_kinds(self):
        for function in (len, str.upper, lambda name: name, Shop().load, list, Broken):
            cache = ValueCache(("cache", ONE), function, lambda name, value: None)
            cache.fetch("a")
            self.assertEqual(cache.held, ("a",))


class BreakTest(unittest.TestCase):

    def deeds(self):
        """Return what breaks off at some call: a name and a function of a cache."""
        return [
            ("fetch", lambda cache: cache.fetch("x")),
            ("put", lambda cache: cache.put("x", 9)),
            ("request", lambda cache: cache.request("x")),
            ("held", lambda cache: cache.put("a", 9)),
        ]

    def test_each_call_that_raises(self):
        chance = random.Random(4)
        broken = 0
        for _ in range(150):
            device = random_device(chance, chance.choice(MODES), 3, 3)
            names = [chance.choice("abcde") for _ in range(8)]
            for word, deed in self.deeds():
                whole = Shop()
                cache = whole.open(device)
                for at, name in enumerate(names):
                    cache.put(name, at)
                ahead = len(whole.calls)
                deed(cache)
                for breaks in range(ahead, len(whole.calls)):
                    shop = Shop(breaks)
                    cache = shop.open(device)
                    for at, name in enumerate(names):
                        cache.put(name, at)
                    before = shown(cache)
                    with self.assertRaises(Broken) as context:
                        deed(cache)
                    self.assertEqual(context.exception.args, (shop.calls[-1],))
                    self.assertEqual(shown(cache), before)
                    self.assertEqual(shop.calls, whole.calls[:breaks + 1])
                    # It is not busy any more, and does it all once more.
                    deed(cache)
                    self.assertEqual(shop.calls[breaks + 1:], whole.calls[ahead:])
                    broken += 1
        self.assertGreater(broken, 300)

    def test_errors_of_all_kinds(self):
        for error in (KeyboardInterrupt, SystemExit, GeneratorExit, StopIteration, MemoryError, Busy, UnknownName):
            def load(name):
                raise error(*(["x"] if error is UnknownName else []))

            cache = ValueCache(("cache", lru(1)), load, load)
            for deed in (cache.fetch, cache.request, cache.request_all):
                with self.assertRaises(error) as context:
                    deed("a")
                self.assertIs(context.exception.__class__, error)
            self.assertEqual((cache.held, cache.misses), ((), 0))
            cache.put("a", 1)
            self.assertEqual(cache.held, ("a",))

    def test_wrong_numbers_of_arguments(self):
        cache = ValueCache(("cache", lru(1)), lambda: 0, lambda name: 0)
        with self.assertRaises(TypeError):
            cache.fetch("a")
        cache.put("a", 1)
        with self.assertRaises(TypeError):
            cache.flush()
        self.assertEqual((cache.held, cache.changed), (("a",), ("a",)))

    def test_request_all_that_breaks_off(self):
        # Behind x, y and z are loaded; the one that breaks leaves those before it as they are.
        calls = [("load", "b"), ("load", "x"), ("store", "a", 1), ("load", "y"), ("load", "z"), ("load", "b")]
        held = {1: ("a", "b"), 2: ("a", "b"), 3: ("b", "x"), 4: ("x", "y"), 5: ("y", "z")}
        for breaks in range(1, 6):
            shop = Shop(breaks)
            cache = filled(shop)
            with self.assertRaises(Broken):
                cache.request_all("x", "y", "z", "b")
            self.assertEqual(shop.calls, calls[:breaks + 1])
            self.assertEqual((cache.held, cache.hits, cache.misses), (held[breaks], 0, max(breaks, 2)))
            self.assertEqual(cache.changed, ("a",) if "a" in held[breaks] else ())

    def test_flush_that_breaks_off(self):
        for breaks in range(3):
            shop = Shop(breaks)
            cache = shop.open(("cache", lru(3)))
            for name in ("c", "a", "b"):
                cache.put(name, name * 2)
            before = shown(cache)
            with self.assertRaises(Broken):
                cache.flush()
            self.assertEqual(cache.changed, ("a", "b", "c")[breaks:])
            self.assertEqual(shown(cache)[:7] + shown(cache)[8:], before[:7] + before[8:])
            shop.calls.clear()
            shop.breaks = None
            cache.flush()
            self.assertEqual([call[1] for call in shop.calls], ["a", "b", "c"][breaks:])


class BusyTest(unittest.TestCase):

    def refuse_all(self, cache, call):
        """Check that all that is refused while a function runs is refused, whatever else is wrong."""
        before = shown(cache)
        for wrong in ("a", "q", "A", None, []):
            check_refused(self, Busy, {}, cache.fetch, wrong)
            check_refused(self, Busy, {}, cache.put, wrong, 1)
            check_refused(self, Busy, {}, cache.request, wrong)
            check_refused(self, Busy, {}, cache.request_all, wrong, "b")
        check_refused(self, Busy, {}, cache.request_all)
        check_refused(self, Busy, {}, cache.request_all, *["a"] * 2001)
        check_refused(self, Busy, {}, cache.flush)
        check_refused(self, Busy, {}, cache.reset)
        self.assertEqual(shown(cache), before)

    def deeds(self):
        return [
            lambda cache: cache.fetch("x"), lambda cache: cache.put("x", 2), lambda cache: cache.request("x"),
            lambda cache: cache.request_all("x", "y"), lambda cache: cache.flush(),
        ]

    def test_all_that_is_refused(self):
        for deed in self.deeds():
            shop = Shop()
            cache = filled(shop)
            cache.put("b", 5)
            shop.during = self.refuse_all
            before = len(shop.calls)
            deed(cache)
            self.assertGreater(len(shop.calls), before)
            shop.during = None
            # Behind it nothing is refused.
            cache.fetch("u")
            cache.put("v", 1)
            cache.request_all("u", "w")
            cache.flush()
            cache.reset()

    def test_what_is_asked(self):
        for deed in self.deeds()[:3]:
            shop = Shop()
            cache = filled(shop)
            before = shown(cache)
            asked = []

            def ask(cache, call):
                asked.append(shown(cache))
                check_refused(self, UnknownName, {"name": "x"}, cache.value_of, "x")
                self.assertIs("a" in cache, True)
                self.assertIs("x" in cache, False)
                self.assertEqual(cache.device, ("cache", lru(2)))
                self.assertEqual(cache, cache.twin())

            shop.during = ask
            deed(cache)
            self.assertEqual(asked, [before] * len(asked))
            self.assertTrue(asked)
            self.assertNotEqual(shown(cache), before)

    def test_what_is_asked_in_request_all(self):
        shop = Shop()
        cache = filled(shop)
        asked = []
        shop.during = lambda cache, call: asked.append((call[:2], cache.held, cache.changed))
        cache.request_all("x", "b", "y")
        self.assertEqual(asked, [
            (("load", "x"), ("a", "b"), ("a",)), (("store", "a"), ("a", "b"), ("a",)), (("load", "y"), ("b", "x"), ()),
        ])

    def test_what_is_asked_in_flush(self):
        shop = Shop()
        cache = shop.open(("cache", lru(3)))
        for name in "bca":
            cache.put(name, name)
        asked = []
        shop.during = lambda cache, call: asked.append((call[1], cache.changed))
        cache.flush()
        self.assertEqual(asked, [("a", ("a", "b", "c")), ("b", ("b", "c")), ("c", ("c",))])

    def test_twins_that_are_made_meanwhile(self):
        shop = Shop()
        cache = filled(shop)
        twins = []

        def copy_it(cache, call):
            shop.during = None
            twin = cache.twin()
            before = shown(cache)
            self.assertEqual(shown(twin), before)
            # The twin is not busy, and may do all.
            twin.fetch("q")
            twin.put("r", 1)
            twin.request_all("q", "r")
            twin.flush()
            twins.append(twin)
            self.assertEqual(shown(cache), before)
            check_refused(self, Busy, {}, cache.fetch, "a")

        shop.during = copy_it
        cache.fetch("x")
        self.assertEqual(twins[0].held, ("q", "r"))
        twins[0].reset()
        self.assertEqual(cache.held, ("b", "x"))

    def test_another_cache_may_work_meanwhile(self):
        shop, second = Shop(), Shop()
        other = second.open(("cache", lru(1)))
        cache = shop.open(("cache", lru(1)))
        shop.during = lambda cache, call: other.fetch(call[1])
        cache.request_all("a", "b")
        self.assertEqual((cache.held, other.held, second.calls), (("b",), ("b",), [("load", "a"), ("load", "b")]))

    def test_busy_leaves_and_the_cache_is_as_before(self):
        cache = ValueCache(("cache", lru(1)), lambda name: cache.fetch("b"), len)
        check_refused(self, Busy, {}, cache.fetch, "a")
        self.assertEqual((cache.held, cache.misses), ((), 0))
        cache.put("a", 1)
        self.assertEqual(cache.fetch("a"), 1)


class EqualityTest(unittest.TestCase):

    def test_values_and_changes_count(self):
        one, other = filled(Shop()), filled(Shop())
        self.assertIs(one == other, True)
        self.assertIs(one != other, False)
        other.flush()
        self.assertIs(one == other, False)
        one.flush()
        self.assertIs(one == other, True)
        one.put("a", 1)
        other.put("a", 2)
        self.assertIs(one == other, False)
        self.assertIs(one != other, True)
        other.put("a", True)
        # Values are equal by ==, and the functions do not count.
        self.assertIs(one == other, True)
        other.request_all("b", "a")
        self.assertIs(one == other, True)
        self.assertNotEqual(one.hits, other.hits)

    def test_values_by_their_own_equality(self):
        class Never:
            def __eq__(self, other):
                return False

        class Always:
            def __eq__(self, other):
                return True

        one, other = Shop().open(("cache", lru(1))), Shop().open(("cache", lru(1)))
        one.put("a", [1, (2,)])
        other.put("a", [1, (2,)])
        self.assertIs(one == other, True)
        same = Never()
        one.put("a", same)
        other.put("a", same)
        self.assertIs(one == other, False)
        self.assertIs(one != other, True)
        one.put("a", Always())
        other.put("a", 5)
        self.assertIs(one == other, True)

    def test_other_classes(self):
        cache = filled(Shop())
        plain = Cache(("cache", lru(2)))
        plain.request_all("a", "b")
        self.assertEqual(cache.levels, plain.levels)
        self.assertIs(cache == plain, False)
        self.assertIs(plain == cache, False)
        self.assertEqual(repr(cache), "ValueCache(2 held)")

    def test_levels_and_states_count(self):
        one, other = Shop().open(BOTH), Shop().open(BOTH)
        one.request_all("a", "b")
        other.request_all("b", "a")
        self.assertEqual(one.held, other.held)
        self.assertIs(one == other, False)
        other.request("b")
        self.assertIs(one == other, True)

    def test_example(self):
        run_example(self, '''
            >>> from missbounds.caches import ValueCache
            >>> from missbounds.catalog import lru
            >>> stored = {}
            >>> cache = ValueCache(("cache", lru(1)), str.upper, stored.setdefault)
            >>> first = [cache.fetch("a"), cache.put("a", 5), cache.fetch("a"), cache.changed, len(stored)]
            >>> first + [cache.fetch("b"), stored, cache.changed, cache.held]
            ['A', True, 5, ('a',), 0, 'B', {'a': 5}, (), ('b',)]
        ''')


if __name__ == "__main__":
    unittest.main()
