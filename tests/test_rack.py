import copy
import itertools
import random
import unittest
from fractions import Fraction

from helper import Prickly, nested, odd_values, run_example
from missbounds.bounds import bound, least_excess
from missbounds.catalog import fifo, lru, mru
from missbounds.errors import (
    BrokenLimit, Busy, InvalidDevice, InvalidEdit, InvalidExcess, InvalidFunction, InvalidName, InvalidRatio, InvalidTimes,
    Limited, NameTaken, NothingToUndo, TooManyDevices, TooManyEdits, TooManySituations, UnknownLimit, UnknownName,
)
from missbounds.rack import Rack
from refused import check_parameters, check_refused, values_told
from samples import LRU, ONE, PAIR_600, PAIR_601, wrong_devices, wrong_names

SINGLE = ("cache", lru(1))
DOUBLE = ("cache", lru(2))
EARLY = ("cache", fifo(2))
TRIPLE = ("cache", lru(3))
NOT_FUNCTIONS = [None, True, False, 0, 1, -1, 10 ** 39, "", "len", (), (1,), ((),), [], [len], {}, {"a": len}]
NOT_FRACTIONS = [
    (1, 0), (0, 0), (2, 2), (0, 2), (-1, 1), (1, -1), (1,), (1, 1, 1), [1, 1], (True, 1), (1, True), ("1", 1), (1, None), 1, "1",
    10 ** 39, ((1, 1),), *odd_values(),
]
EDITS = [
    ("install", "z", SINGLE), ("exchange", "a", SINGLE), ("drop", "a"), ("bind", "a", "b", (1, 1), (0, 1)), ("unbind", "a", "b"),
]


class Broken(Exception):
    """What a function of a test raises."""


def told_edit(rack, edit):
    """Do an edit by its method."""
    return getattr(rack, edit[0])(*edit[1:])


def shown(rack):
    """Return all that a rack tells."""
    return [rack.names, [rack[name] for name in rack.names], rack.limits, rack.edits, len(rack), repr(rack), rack.busy]


def two(limits=True):
    """Return a rack with a small and a great cache, and a limit between them."""
    rack = Rack()
    rack.install("small", DOUBLE)
    rack.install("great", TRIPLE)
    if limits:
        rack.bind("great", "small", (1, 1), (0, 1))
    return rack


def is_kept(one, other, ratio, excess):
    """Return whether a limit holds, by the least bound."""
    least = bound(one, other)
    if least is None or Fraction(*ratio) < Fraction(*least[0]):
        return False
    return Fraction(*least_excess(one, other, ratio)) <= Fraction(*excess)


class RackTest(unittest.TestCase):

    def refused(self, error, told, method, *args, **named):
        """Check that a method is refused and that the rack is as before."""
        rack = method.__self__
        before = shown(rack)
        check_refused(self, error, told, method, *args, **named)
        self.assertEqual(shown(rack), before)

    def check_limits(self, rack):
        for name, other, ratio, excess in rack.limits:
            self.assertTrue(is_kept(rack[name], rack[other], ratio, excess))


class EditsTest(RackTest):

    def test_an_empty_rack(self):
        rack = Rack()
        self.assertEqual(shown(rack), [(), [], (), (), 0, "Rack(0 devices, 0 limits)", False])
        self.assertIsNone(rack.do_all())
        self.assertEqual(shown(rack), shown(Rack()))

    def test_each_edit(self):
        rack = Rack()
        edits = [
            ("install", "b", DOUBLE), ("install", "a", SINGLE), ("bind", "b", "a", (1, 1), (0, 1)), ("bind", "a", "a", (1, 1), (0, 1)),
            ("exchange", "b", TRIPLE), ("unbind", "b", "a"), ("drop", "b"),
        ]
        for count, edit in enumerate(edits, start=1):
            self.assertIsNone(told_edit(rack, edit))
            self.assertEqual(rack.edits, tuple(edits[:count]))
            self.assertEqual(rack.busy, False)
            self.check_limits(rack)
        self.assertEqual((rack.names, rack.limits, rack["a"]), (("a",), (("a", "a", (1, 1), (0, 1)),), SINGLE))

    def test_names_of_arguments(self):
        rack = Rack()
        rack.install(name="a", device=SINGLE)
        rack.install(device=DOUBLE, name="b")
        rack.exchange(device=SINGLE, name="b")
        rack.bind(excess=(0, 1), ratio=(1, 1), other="b", name="a")
        rack.unbind(other="b", name="a")
        rack.drop(name="b")
        rack.undo(times=2)
        rack.do_all(("unbind", "a", "b"), watch=None)
        self.assertEqual(rack.trial(work=len), 2)
        self.assertEqual((rack.names, rack.limits), (("a", "b"), ()))

    def test_what_is_told(self):
        rack = Rack()
        for name in ("c", "a", "bb", "b"):
            rack.install(name, SINGLE)
        self.assertEqual(rack.names, ("a", "b", "bb", "c"))
        for name, other in (("c", "a"), ("a", "c"), ("b", "b"), ("a", "bb"), ("a", "b")):
            rack.bind(name, other, (1, 1), (1, 2))
        self.assertEqual([limit[:2] for limit in rack.limits], [("a", "b"), ("a", "bb"), ("a", "c"), ("b", "b"), ("c", "a")])
        self.assertEqual((len(rack), repr(rack)), (4, "Rack(4 devices, 5 limits)"))
        for value in (rack.names, rack.limits, rack.edits, rack.limits[0], rack.edits[0]):
            self.assertIs(value.__class__, tuple)

    def test_a_limit_is_replaced(self):
        rack = two()
        rack.bind("great", "small", (3, 2), (5, 1))
        self.assertEqual(rack.limits, (("great", "small", (3, 2), (5, 1)),))
        rack.bind("great", "small", (1, 1), (0, 1))
        self.assertEqual(rack.limits, (("great", "small", (1, 1), (0, 1)),))
        # One that does not hold does not replace it.
        self.refused(BrokenLimit, {"name": "great", "other": "small"}, rack.bind, "great", "small", (1, 2), (9, 1))
        rack.undo()
        self.assertEqual(rack.limits, (("great", "small", (3, 2), (5, 1)),))

    def test_a_limit_of_a_device_with_itself(self):
        rack = Rack()
        rack.install("a", DOUBLE)
        self.refused(BrokenLimit, {"name": "a", "other": "a"}, rack.bind, "a", "a", (1, 2), (100, 1))
        rack.bind("a", "a", (1, 1), (0, 1))
        # With another device in its place it is looked at for that one with itself.
        rack.exchange("a", SINGLE)
        rack.exchange("a", EARLY)
        self.refused(Limited, {"name": "a", "other": "a"}, rack.drop, "a")
        rack.unbind("a", "a")
        rack.drop("a")
        self.assertEqual(shown(rack)[:3], [(), [], ()])

    def test_bounds_are_come_up_to(self):
        rack = Rack()
        rack.install("late", DOUBLE)
        rack.install("early", EARLY)
        for name, other in (("late", "early"), ("early", "late")):
            rack.bind(name, other, (2, 1), (0, 1))
            for ratio, excess in (((1, 1), (10 ** 9, 1)), ((19, 10), (10 ** 30, 1)), ((0, 1), (5, 1))):
                self.refused(BrokenLimit, {"name": name, "other": other}, rack.bind, name, other, ratio, excess)
            rack.bind(name, other, (5, 2), (1, 7))
        one = ("cache", (2, ((1, 1, (0, 1)), (0, 0, (1, 1)))))
        other = ("cache", (2, ((1, 1, (0, 0)), (0, 1, (0, 1)))))
        rack.do_all(("install", "one", one), ("install", "other", other))
        self.assertEqual(bound(one, other), ((11, 7), (1, 7)))
        rack.bind("one", "other", (11, 7), (1, 7))
        for ratio, excess in (((11, 7), (0, 1)), ((11, 7), (1, 8)), ((10, 7), (9, 1)), ((11, 7), (10 ** 30 - 3, 7 * 10 ** 30))):
            self.refused(BrokenLimit, {"name": "one", "other": "other"}, rack.bind, "one", "other", ratio, excess)

    def test_exchange_looks_at_limits_in_their_order(self):
        rack = Rack()
        for name in "abcd":
            rack.install(name, DOUBLE)
        for name, other in (("c", "b"), ("b", "d"), ("b", "b"), ("a", "b"), ("c", "d")):
            rack.bind(name, other, (1, 1), (0, 1))
        # A single line is never as good: limits of b as the first one break, those as the other one do not.
        self.refused(BrokenLimit, {"name": "b", "other": "d"}, rack.exchange, "b", SINGLE)
        # More lines are: the first limit in which b is the other one breaks.
        self.refused(BrokenLimit, {"name": "a", "other": "b"}, rack.exchange, "b", TRIPLE)
        rack.unbind("a", "b")
        self.refused(BrokenLimit, {"name": "c", "other": "b"}, rack.exchange, "b", TRIPLE)
        rack.unbind("c", "b")
        rack.exchange("b", TRIPLE)
        self.check_limits(rack)
        # Limits of other devices do not stand in the way.
        self.assertEqual([limit[:2] for limit in rack.limits], [("b", "b"), ("b", "d"), ("c", "d")])

    def test_exchange_that_breaks_the_second_limit(self):
        rack = Rack()
        for name, device in (("a", DOUBLE), ("b", DOUBLE), ("c", SINGLE)):
            rack.install(name, device)
        rack.bind("b", "c", (1, 1), (0, 1))
        rack.bind("b", "a", (1, 1), (0, 1))
        self.refused(BrokenLimit, {"name": "b", "other": "a"}, rack.exchange, "b", SINGLE)
        rack.exchange("a", SINGLE)
        rack.exchange("b", SINGLE)
        self.check_limits(rack)
        rack.undo()
        # The first one is kept, the second one is not.
        rack.undo()
        rack.unbind("b", "a")
        rack.bind("a", "b", (1, 1), (0, 1))
        self.refused(BrokenLimit, {"name": "a", "other": "b"}, rack.exchange, "b", TRIPLE)
        rack.bind("b", "b", (1, 1), (0, 1))
        rack.bind("a", "b", (2, 1), (0, 1))
        self.refused(BrokenLimit, {"name": "a", "other": "b"}, rack.exchange, "b", ("cache", mru(3)))

    def test_limits_that_cannot_be_looked_at(self):
        rack = Rack()
        rack.install("a", PAIR_601[0])
        rack.install("b", PAIR_601[1])
        rack.install("c", SINGLE)
        self.refused(TooManySituations, {"limit": 600}, rack.bind, "a", "b", (1, 1), (0, 1))
        self.refused(TooManySituations, {"limit": 600}, rack.bind, "a", "b", (0, 1), (0, 1))
        rack.bind("a", "c", (1, 1), (0, 1))
        self.refused(TooManySituations, {"limit": 600}, rack.exchange, "c", PAIR_601[1])
        self.refused(BrokenLimit, {"name": "a", "other": "c"}, rack.exchange, "c", DOUBLE)
        rack.bind("c", "b", (1, 1), (0, 1))
        # The first limit in their order is told, whichever error it is.
        self.refused(TooManySituations, {"limit": 600}, rack.exchange, "c", PAIR_601[1])
        self.refused(BrokenLimit, {"name": "a", "other": "c"}, rack.exchange, "c", DOUBLE)
        # With this one the first limit holds, and the second one cannot be looked at.
        self.refused(TooManySituations, {"limit": 600}, rack.exchange, "c", PAIR_601[0])
        rack.install("d", PAIR_600[0])
        rack.install("e", PAIR_600[1])
        rack.bind("d", "e", (1, 1), (0, 1))
        self.check_limits(rack)

    def test_drop(self):
        rack = Rack()
        for name in "abc":
            rack.install(name, SINGLE)
        for name, other in (("c", "a"), ("b", "c"), ("a", "c")):
            rack.bind(name, other, (1, 1), (0, 1))
        self.refused(Limited, {"name": "a", "other": "c"}, rack.drop, "c")
        self.refused(Limited, {"name": "a", "other": "c"}, rack.drop, "a")
        self.refused(Limited, {"name": "b", "other": "c"}, rack.drop, "b")
        rack.unbind("a", "c")
        self.refused(Limited, {"name": "b", "other": "c"}, rack.drop, "c")
        self.refused(Limited, {"name": "c", "other": "a"}, rack.drop, "a")
        rack.unbind("c", "a")
        rack.drop("a")
        self.assertEqual(rack.names, ("b", "c"))

    def test_20_and_21_devices(self):
        rack = Rack()
        names = ["d" + letter for letter in "abcdefghijklmnopqrst"]
        for name in names:
            rack.install(name, SINGLE)
        self.assertEqual(len(rack), 20)
        self.refused(TooManyDevices, {"limit": 20}, rack.install, "x", SINGLE)
        self.refused(NameTaken, {"name": "da"}, rack.install, "da", 5)
        self.refused(InvalidDevice, {"value": 5}, rack.install, "x", 5)
        self.refused(InvalidName, {"value": 5}, rack.install, 5, 5)
        rack.drop("dc")
        rack.install("x", SINGLE)
        self.refused(TooManyDevices, {"limit": 20}, rack.install, "dc", SINGLE)
        rack.exchange("x", DOUBLE)

    def test_200_and_201_edits(self):
        rack = two()
        for count in range(3, 199):
            rack.exchange("great", (DOUBLE, TRIPLE)[count % 2])
        rack.install("more", SINGLE)
        self.assertEqual(len(rack.edits), 200)
        edits = [
            ("install", "last", SINGLE), ("exchange", "great", DOUBLE), ("drop", "more"), ("bind", "small", "more", (1, 1), (0, 1)),
            ("unbind", "great", "small")]
        for edit in edits:
            self.refused(TooManyEdits, {"limit": 200}, getattr(rack, edit[0]), *edit[1:])
            self.refused(TooManyEdits, {"limit": 200}, rack.do_all, edit)
        # After all others.
        self.refused(BrokenLimit, {"name": "great", "other": "small"}, rack.bind, "great", "small", (0, 1), (0, 1))
        self.refused(NameTaken, {"name": "more"}, rack.install, "more", SINGLE)
        self.refused(Limited, {"name": "great", "other": "small"}, rack.drop, "small")
        self.refused(UnknownLimit, {"name": "small", "other": "great"}, rack.unbind, "small", "great")
        self.refused(BrokenLimit, {"name": "great", "other": "small"}, rack.exchange, "great", SINGLE)
        rack.undo()
        rack.unbind("great", "small")
        self.refused(TooManyEdits, {"limit": 200}, rack.drop, "great")
        rack.undo(times=200)
        self.assertEqual(shown(rack), shown(Rack()))
        many = [("install", "a", SINGLE)] + [("exchange", "a", SINGLE)] * 200
        self.refused(TooManyEdits, {"limit": 200}, rack.do_all, *many)
        rack.do_all(*many[:200])
        self.assertEqual(rack.edits, tuple(many[:200]))

    def test_against_a_model(self):
        chance = random.Random(1)
        devices = [SINGLE, DOUBLE, EARLY, TRIPLE, ("victim", lru(1), fifo(1)), ("plain", lru(1), lru(1))]
        done = 0
        for _ in range(15):
            rack, model = Rack(), Model()
            for _ in range(40):
                name, other = chance.choice("abcd"), chance.choice("abcd")
                ratio, excess = chance.choice(((0, 1), (1, 1), (2, 1), (3, 2))), chance.choice(((0, 1), (1, 1), (1, 2)))
                edit = chance.choice((
                    ("install", name, chance.choice(devices)), ("exchange", name, chance.choice(devices)), ("drop", name),
                    ("bind", name, other, ratio, excess), ("unbind", name, other), ("undo",)))
                wrong = model.tell(edit)
                method = getattr(rack, edit[0])
                if wrong is None:
                    method(*edit[1:])
                    done += 1
                else:
                    self.refused(wrong[0], wrong[1], method, *edit[1:])
                self.assertEqual(rack.names, tuple(sorted(model.devices)))
                self.assertEqual(rack.limits, tuple(sorted([(*pair, *worth) for pair, worth in model.limits.items()])))
                self.assertEqual(rack.edits, tuple([edit for edit, devices_before, limits in model.past]))
                self.check_limits(rack)
        self.assertGreater(done, 150)


class Model:
    """A slow account of a rack."""

    def __init__(self):
        self.devices, self.limits, self.past = {}, {}, []

    def tell(self, edit):
        """Do an edit, or return its error."""
        word, *told = edit
        if word == "undo":
            if not self.past:
                return NothingToUndo, {}
            last, self.devices, self.limits = self.past.pop()
            return None
        wrong = self.wrong(word, *told)
        if wrong is None:
            self.past.append((edit, dict(self.devices), dict(self.limits)))
            self.carry_out(word, *told)
        return wrong

    def wrong(self, word, name, *told):
        if word == "install":
            return (NameTaken, {"name": name}) if name in self.devices else None
        for known in [name] + ([told[0]] if word in ("bind", "unbind") else []):
            if known not in self.devices:
                return UnknownName, {"name": known}
        if word == "unbind":
            return None if (name, told[0]) in self.limits else (UnknownLimit, {"name": name, "other": told[0]})
        pairs = sorted(pair for pair in self.limits if name in pair)
        if word == "drop":
            return (Limited, dict(zip(("name", "other"), pairs[0]))) if pairs else None
        limits, devices = dict(self.limits), dict(self.devices)
        if word == "exchange":
            devices[name] = told[0]
        else:
            pairs = [(name, told[0])]
            limits[pairs[0]] = tuple(told[1:])
        for one, other in pairs:
            if not is_kept(devices[one], devices[other], *limits[one, other]):
                return BrokenLimit, {"name": one, "other": other}
        return None

    def carry_out(self, word, name, *told):
        if word in ("install", "exchange"):
            self.devices[name] = told[0]
        if word == "drop":
            del self.devices[name]
        if word == "bind":
            self.limits[name, told[0]] = tuple(told[1:])
        if word == "unbind":
            del self.limits[name, told[0]]


class ErrorsTest(RackTest):

    def rack(self):
        rack = Rack()
        for name in ("a", "b", "c"):
            rack.install(name, SINGLE)
        rack.bind("a", "b", (1, 1), (0, 1))
        return rack

    def test_each_parameter(self):
        invalid = [(value, InvalidName, {"value": value}) for value in wrong_names()]
        unknown = invalid[:1] + [("zz", UnknownName, {"name": "zz"})] + invalid
        devices = values_told(InvalidDevice, [LRU, *wrong_devices(), *odd_values()])
        rack = self.rack()
        before = shown(rack)
        taken = invalid[:1] + [("a", NameTaken, {"name": "a"})] + invalid
        check_parameters(self, untold(rack.install), ("name", "device"), ("z", SINGLE), {"name": taken, "device": devices})
        check_parameters(self, rack.exchange, ("name", "device"), ("a", SINGLE), {"name": unknown, "device": devices})
        # Also where no limit asks for the device.
        check_parameters(self, rack.exchange, ("name", "device"), ("c", SINGLE), {"device": devices})
        check_parameters(self, rack.drop, ("name",), ("c",), {"name": unknown})
        wrong = {
            "name": unknown, "other": unknown, "ratio": values_told(InvalidRatio, NOT_FRACTIONS),
            "excess": values_told(InvalidExcess, NOT_FRACTIONS)}
        check_parameters(self, rack.bind, ("name", "other", "ratio", "excess"), ("a", "b", (1, 1), (0, 1)), wrong)
        check_parameters(self, rack.unbind, ("name", "other"), ("a", "b"), {"name": unknown, "other": unknown})
        self.assertEqual(shown(rack), before)

    def test_unknown_before_invalid(self):
        rack = self.rack()
        # Both errors of the first name come before those of the other one.
        self.refused(UnknownName, {"name": "x"}, rack.bind, "x", 5, None, None)
        self.refused(InvalidName, {"value": "X"}, rack.bind, "X", "x", None, None)
        self.refused(UnknownName, {"name": "x"}, rack.unbind, "x", "X")
        self.refused(InvalidName, {"value": "X"}, rack.unbind, "a", "X")
        self.refused(UnknownLimit, {"name": "b", "other": "a"}, rack.unbind, "b", "a")
        self.refused(UnknownLimit, {"name": "a", "other": "a"}, rack.unbind, "a", "a")
        self.refused(UnknownName, {"name": "x"}, rack.exchange, "x", None)
        self.refused(InvalidRatio, {"value": (2, 2)}, rack.bind, "a", "b", (2, 2), (2, 2))

    def test_times(self):
        rack = self.rack()
        values = [*odd_values(), 0, -5, "1", (1,), [1], nested((), 99)]
        check_parameters(self, rack.undo, ("times",), (1,), {"times": values_told(InvalidTimes, values)}, ("times",))
        for times in (5, 6, 201, 10 ** 39):
            self.refused(NothingToUndo, {}, rack.undo, times=times)
        with self.assertRaises(TypeError):
            rack.undo(1)
        rack.undo(times=4)
        self.refused(NothingToUndo, {}, rack.undo)
        self.refused(InvalidTimes, {"value": 0}, rack.undo, times=0)

    def test_functions(self):
        rack = self.rack()
        check_parameters(self, rack.trial, ("work",), (len,), {"work": values_told(InvalidFunction, NOT_FUNCTIONS)})
        for work in (len, repr, lambda rack: None, self.shown, Rack.__len__):
            rack.trial(work)

    def shown(self, rack):
        return shown(rack)

    def test_rack_of_a_name(self):
        rack = self.rack()
        for value in wrong_names() + [Prickly(), nested("a", 90), slice(0, 1)]:
            check_refused(self, InvalidName, {"value": value}, rack.__getitem__, value)
        for name in ("d", "aa", "zzzzzz", "install"[:6]):
            check_refused(self, UnknownName, {"name": name}, rack.__getitem__, name)
        self.assertEqual(rack["a"], SINGLE)

    def test_in_with_any_value(self):
        rack = self.rack()
        for value in odd_values() + wrong_names() + ["d", "aa", ("a",), Prickly(), SINGLE, nested((), 99)]:
            self.assertIs(value in rack, False)
        for name in "abc":
            self.assertIs(name in rack, True)


def untold(method):
    """Return a method that installs, and takes it back if it did."""
    def install(name, device):
        method(name, device)
        method.__self__.undo()

    return install


class DoAllTest(RackTest):

    def test_in_order(self):
        rack = Rack()
        edits = [("install", "b", DOUBLE), ("install", "a", SINGLE), ("bind", "b", "a", (1, 1), (0, 1)), ("exchange", "b", TRIPLE)]
        self.assertIsNone(rack.do_all(*edits))
        self.assertEqual(rack.edits, tuple(edits))
        other = Rack()
        for edit in edits:
            told_edit(other, edit)
        self.assertEqual(shown(rack), shown(other))
        # Each of them is taken back by itself.
        rack.undo()
        self.assertEqual(rack["b"], DOUBLE)
        rack.undo(times=3)
        self.assertEqual(shown(rack), shown(Rack()))

    def test_wrong_edits(self):
        rack = two()
        right = ("exchange", "great", DOUBLE)
        wrong = odd_values() + [
            ("install",), ("install", "x"), ("install", "x", SINGLE, 1), ("drop",), ("drop", "a", "b"), ("bind", "a", "b", (1, 1)),
            ("bind", "a", "b", (1, 1), (0, 1), 0), ("unbind", "a"), ("unbind", "a", "b", "c"), ("exchange", "a"), ("undo",),
            ("undo", 1), ("trial", len), ("do_all",), ("Install", "x", SINGLE), ("install ", "x", SINGLE), (("install",), "x", SINGLE),
            (None, "x", SINGLE), (["drop"], "a"), ({}, "a"), ("drop", "a")[::-1], ["drop", "small"], "drop", ("names",), (True, 1),
            ("busy", 1), (Prickly(), "a"), ("", "a"), (b"drop", "a"),
        ]
        called = []
        for value in wrong:
            for at in range(3):
                edits = [right] * at + [value, right, value]
                self.refused(InvalidEdit, {"index": at}, rack.do_all, *edits)
                self.refused(InvalidEdit, {"index": at}, rack.do_all, *edits, watch=lambda *told: called.append(told))
            # Ahead of the error of an edit before it.
            self.refused(InvalidEdit, {"index": 1}, rack.do_all, ("drop", "none"), value)
        self.assertEqual(called, [])

    def test_an_edit_that_fails_at_each_place(self):
        failing = [
            (("install", "small", SINGLE), NameTaken, {"name": "small"}), (("install", 5, SINGLE), InvalidName, {"value": 5}),
            (("drop", "small"), Limited, {"name": "great", "other": "small"}), (("drop", "q"), UnknownName, {"name": "q"}),
            (("bind", "small", "great", (9, 1), (9, 1)), BrokenLimit, {"name": "small", "other": "great"}),
            (("exchange", "great", SINGLE), BrokenLimit, {"name": "great", "other": "small"}),
            (("unbind", "small", "great"), UnknownLimit, {"name": "small", "other": "great"}),
        ]
        right = [("install", "x", TRIPLE), ("bind", "x", "small", (1, 1), (0, 1)), ("exchange", "great", TRIPLE), ("drop", "y")]
        rack = two()
        rack.install("y", SINGLE)
        for edit, error, told in failing:
            for at in range(4):
                edits = right[:at] + [edit] + right[at:]
                watched = []
                self.refused(error, told, rack.do_all, *edits, watch=lambda seen, index: watched.append(index))
                self.assertEqual(watched, list(range(at)))
        rack.do_all(*right)
        self.assertEqual(rack.names, ("great", "small", "x"))

    def test_watch(self):
        rack = two()
        edits = [("install", "x", TRIPLE), ("bind", "x", "great", (1, 1), (0, 1)), ("drop", "small"), ("unbind", "great", "small")]
        seen = []

        def watch(other, index):
            self.assertIs(other, rack)
            seen.append((index, other.names, other.limits, other.edits[3:], other.busy, len(other), repr(other), "x" in other))
            self.assertEqual(other["x"], TRIPLE)
            return False

        edits[2], edits[3] = edits[3], edits[2]
        rack.do_all(*edits, watch=watch)
        model = two()
        for index, edit in enumerate(edits):
            told_edit(model, edit)
            told = (index, model.names, model.limits, model.edits[3:], True, len(model), repr(model), True)
            self.assertEqual(seen[index], told)
        self.assertEqual(len(seen), 4)
        self.assertIs(rack.busy, False)
        seen.clear()
        rack.do_all(watch=watch)
        self.assertEqual(seen, [])

    def test_watch_is_called_before_the_next_edit_is_begun(self):
        rack = Rack()
        seen = []
        self.refused(
            NameTaken, {"name": "a"}, rack.do_all, ("install", "a", SINGLE), ("install", "b", SINGLE), ("install", "a", SINGLE),
            watch=lambda other, index: seen.append((index, other.names)))
        self.assertEqual(seen, [(0, ("a",)), (1, ("a", "b"))])

    def test_watch_that_raises(self):
        rack = two()
        edits = [("install", "x", TRIPLE), ("install", "y", TRIPLE), ("unbind", "great", "small"), ("drop", "small")]
        before = shown(rack)
        for at in range(4):
            for error in (Broken, KeyboardInterrupt, SystemExit, GeneratorExit, StopIteration, UnknownName, Busy):
                def watch(other, index):
                    if index == at:
                        raise error(*(["x"] if error is UnknownName else []))

                with self.assertRaises(error) as context:
                    rack.do_all(*edits, watch=watch)
                self.assertIs(context.exception.__class__, error)
                self.assertEqual(shown(rack), before)
        rack.do_all(*edits)

    def test_busy(self):
        rack = two()
        calls = [
            ("install", (5, 5), {}), ("install", ("z", SINGLE), {}), ("exchange", ("great", TRIPLE), {}), ("exchange", (None, None), {}),
            ("drop", ("q",), {}), ("drop", ([],), {}), ("bind", ("great", "small", (1, 1), (0, 1)), {}), ("bind", (1, 2, 3, 4), {}),
            ("unbind", ("great", "small"), {}), ("unbind", (1, 2), {}), ("do_all", (), {}), ("do_all", (5,), {}),
            ("do_all", (("drop", "small"),), {"watch": len}), ("undo", (), {}), ("undo", (), {"times": 0}), ("undo", (), {"times": 999}),
            ("trial", (len,), {}), ("trial", (None,), {}), ("trial", (5,), {}),
        ]
        count = []

        def watch(other, index):
            before = shown(other)
            for word, args, named in calls:
                check_refused(self, Busy, {}, getattr(other, word), *args, **named)
            self.assertEqual(shown(other), before)
            count.append(index)

        rack.do_all(("install", "x", TRIPLE), ("drop", "x"), watch=watch)
        self.assertEqual(count, [0, 1])
        self.assertEqual(len(rack.edits), 5)
        rack.undo()
        # Behind it nothing is refused, also if a Busy has left it.
        self.refused(Busy, {}, rack.do_all, ("drop", "x"), watch=lambda other, index: other.undo())
        rack.drop("x")
        self.assertIs(rack.busy, False)

    def test_another_rack_may_be_told_meanwhile(self):
        rack, other = Rack(), Rack()
        rack.do_all(("install", "a", SINGLE), watch=lambda seen, index: other.install("b", seen["a"]))
        self.assertEqual((rack.names, other.names), (("a",), ("b",)))


class UndoTest(RackTest):

    def test_back_and_again(self):
        rack = Rack()
        edits = [
            ("install", "a", SINGLE), ("install", "b", DOUBLE), ("bind", "b", "a", (1, 1), (0, 1)), ("exchange", "b", TRIPLE),
            ("bind", "b", "a", (2, 1), (1, 1)), ("install", "c", EARLY), ("drop", "c"), ("unbind", "b", "a"), ("drop", "a")]
        states = [shown(rack)]
        for edit in edits:
            told_edit(rack, edit)
            states.append(shown(rack))
        for count in range(len(edits), 0, -1):
            self.assertEqual(shown(rack), states[count])
            self.assertIsNone(rack.undo())
        self.assertEqual(shown(rack), states[0])
        for start, end in itertools.combinations(range(len(edits) + 1), 2):
            again = Rack()
            again.do_all(*edits[:end])
            again.undo(times=end - start)
            self.assertEqual(shown(again), states[start])
            again.do_all(*edits[start:])
            self.assertEqual(shown(again), states[-1])


class TrialTest(RackTest):

    def change(self, rack):
        """Do edits of each kind."""
        rack.install("x", TRIPLE)
        rack.bind("x", "great", (1, 1), (0, 1))
        rack.unbind("great", "small")
        rack.drop("small")

    def test_all_is_taken_back(self):
        for told in (None, False, 0, 1, "", "True", (True,), [], Broken, SINGLE):
            rack = two()
            before = shown(rack)

            def work(other):
                self.change(other)
                self.assertEqual(other.names, ("great", "x"))
                return told

            self.assertIs(rack.trial(work), told)
            self.assertEqual(shown(rack), before)

    def test_true_keeps_it(self):
        rack, other = two(), two()
        self.change(other)

        def work(rack):
            self.change(rack)
            return True

        self.assertIs(rack.trial(work), True)
        self.assertEqual(shown(rack), shown(other))

    def test_exceptions(self):
        for error in (Broken, KeyboardInterrupt, SystemExit, StopIteration, UnknownName, Busy, GeneratorExit):
            rack = two()
            before = shown(rack)

            def work(other):
                self.change(other)
                raise error(*(["x"] if error is UnknownName else []))

            with self.assertRaises(error) as context:
                rack.trial(work)
            self.assertIs(context.exception.__class__, error)
            self.assertEqual(shown(rack), before)
        self.refused(UnknownName, {"name": "q"}, rack.trial, lambda other: other.drop("q"))

    def test_undo_that_goes_further_back(self):
        rack = two()
        before = shown(rack)
        for times in (1, 2, 3):
            rack.trial(lambda other: other.undo(times=times))
            self.assertEqual(shown(rack), before)

        def work(other):
            other.undo(times=3)
            other.install("new", TRIPLE)
            return other.names

        self.assertEqual(rack.trial(work), ("new",))
        self.assertEqual(shown(rack), before)

        def stay(other):
            other.undo(times=2)
            return True

        self.assertIs(rack.trial(stay), True)
        self.assertEqual((rack.names, rack.limits, len(rack.edits)), (("small",), (), 1))

    def test_trials_inside_another(self):
        for inner in (None, True):
            for outer in (None, True):
                rack = two()
                before = shown(rack)

                def second(other):
                    other.unbind("great", "small")
                    other.undo(times=3)
                    return inner

                def first(other):
                    other.install("x", TRIPLE)
                    middle = shown(other)
                    other.trial(second)
                    if inner is None:
                        self.assertEqual(shown(other), middle)
                    else:
                        # The limit was taken away, and that, the new device and the limit were taken back.
                        self.assertEqual((other.names, other.limits, len(other.edits)), (("great", "small"), (), 2))
                    return outer

                rack.trial(first)
                if outer is None:
                    self.assertEqual(shown(rack), before)
                elif inner is None:
                    self.assertEqual(rack.names, ("great", "small", "x"))
                else:
                    self.assertEqual((rack.names, rack.limits), (("great", "small"), ()))

    def test_an_inner_trial_that_raises(self):
        rack = two()
        before = shown(rack)

        def second(other):
            other.drop("x")
            raise Broken()

        def first(other):
            other.install("x", TRIPLE)
            middle = shown(other)
            with self.assertRaises(Broken):
                other.trial(second)
            self.assertEqual(shown(other), middle)
            return other.names

        self.assertEqual(rack.trial(first), ("great", "small", "x"))
        self.assertEqual(shown(rack), before)

    def test_do_all_inside_a_trial(self):
        rack = two()
        before = shown(rack)

        def work(other):
            self.assertIs(other.busy, False)
            with self.assertRaises(Broken):
                other.do_all(("install", "x", TRIPLE), ("install", "y", TRIPLE), watch=self.break_off)
            self.assertEqual(shown(other), before)
            other.do_all(("install", "x", TRIPLE))
            return len(other)

        self.assertEqual(rack.trial(work), 3)
        self.assertEqual(shown(rack), before)

    def break_off(self, other, index):
        if index == 1:
            raise Broken()


class EqualityTest(RackTest):

    def test_logs_do_not_count(self):
        one, other = two(), Rack()
        other.do_all(("install", "great", DOUBLE), ("install", "x", SINGLE), ("install", "small", DOUBLE), ("drop", "x"))
        other.bind("great", "small", (9, 1), (0, 1))
        self.assertIs(one == other, False)
        other.exchange("great", TRIPLE)
        self.assertIs(one == other, False)
        other.bind("great", "small", (1, 1), (0, 1))
        self.assertNotEqual(one.edits, other.edits)
        self.assertIs(one == other, True)
        self.assertIs(one != other, False)
        other.undo()
        self.assertIs(one == other, False)
        self.assertIs(one != other, True)

    def test_devices_and_limits_count(self):
        self.assertEqual(Rack(), Rack())
        self.assertNotEqual(two(), two(limits=False))
        one, other = two(limits=False), two(limits=False)
        one.install("x", SINGLE)
        self.assertNotEqual(one, other)
        other.install("y", SINGLE)
        self.assertNotEqual(one, other)
        # Alike is not equal.
        one, other = Rack(), Rack()
        one.install("x", ("cache", LRU))
        other.install("x", ("cache", lru(2)))
        self.assertNotEqual(one, other)
        other.exchange("x", copy.deepcopy(("cache", LRU)))
        self.assertEqual(one, other)

    def test_other_values(self):
        rack = Rack()
        for value in odd_values() + ["Rack(0 devices, 0 limits)", ({}, {})]:
            self.assertIs(rack == value, False)
            if not isinstance(value, Prickly):
                self.assertIs(value == rack, False)
                self.assertIs(rack != value, True)

    def test_nothing_is_modified(self):
        device = ("victim", ONE, LRU)
        edits = (("install", "a", device), ("install", "b", device), ("bind", "a", "b", (1, 1), (0, 1)))
        before = copy.deepcopy(edits)
        rack, other = Rack(), Rack()
        rack.do_all(*edits)
        other.do_all(*edits)
        self.assertEqual(edits, before)
        self.assertEqual(shown(rack), shown(other))

    def test_examples(self):
        run_example(self, '''
            >>> from missbounds.catalog import lru
            >>> from missbounds.rack import Rack
            >>> rack = Rack()
            >>> rack.do_all(("install", "small", ("cache", lru(1))), ("install", "great", ("cache", lru(2))), ("bind", "great", "small", (1, 1), (0, 1)))
            >>> first = [rack.names, rack.limits, len(rack.edits), repr(rack)]
            >>> rack.undo()
            >>> first + [rack.limits, "great" in rack, "huge" in rack, rack.trial(repr), rack.trial(len)]
            [('great', 'small'), (('great', 'small', (1, 1), (0, 1)),), 3, 'Rack(2 devices, 1 limits)', (), True, False, 'Rack(2 devices, 0 limits)', 2]
        ''')
        rack = Rack()
        rack.install("small", ("cache", lru(1)))
        rack.install("great", ("cache", lru(2)))
        self.refused(BrokenLimit, {"name": "small", "other": "great"}, rack.bind, "small", "great", (9, 1), (9, 1))


if __name__ == "__main__":
    unittest.main()
