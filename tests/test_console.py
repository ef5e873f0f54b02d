import random
import unittest

from helper import odd_values, nested, run_example
from missbounds.bounds import bound
from missbounds.catalog import fifo, lru, mru, named, plru
from missbounds.console import Console
from missbounds.errors import (
    BrokenLimit, InvalidCommand, InvalidHistory, InvalidLines, InvalidName, Limited, NameTaken, NothingToUndo,
    TooManyDevices, TooManyEdits, TooManySituations, UnknownName,
)
from missbounds.plains import difference
from missbounds.rack import Rack
from missbounds.situations import names_of
from missbounds.traces import answers
from refused import check_parameters

TITLES = ("lru", "mru", "fifo", "lifo", "clock", "bits", "plru")


def told(*commands):
    """Return a console to which commands were told."""
    console = Console()
    for command in commands:
        console.say(command)
    return console


def two():
    return told("install x lru 2", "install y fifo 2", "install z lru 1")


class ConsoleTest(unittest.TestCase):

    def refused(self, error, attributes, console, command):
        """Check that a command is refused, and that the rack is as before."""
        before = (console.rack.names, [console.rack[name] for name in console.rack.names], console.rack.limits, console.rack.edits)
        with self.assertRaises(error, msg=repr(command)[:200]) as context:
            console.say(command)
        self.assertIs(context.exception.__class__, error)
        found = vars(context.exception)
        self.assertEqual(list(found), list(attributes))
        for name, value in attributes.items():
            # The words of a command are new strings; the command itself is the very value.
            self.assertTrue(found[name] is value or name != "command" and found[name] == value, (command, found))
        self.assertEqual(before, (
            console.rack.names, [console.rack[name] for name in console.rack.names], console.rack.limits, console.rack.edits))

    def check_invalid(self, console, *commands):
        for command in commands:
            self.refused(InvalidCommand, {"command": command}, console, command)


class AnswersTest(ConsoleTest):

    def test_install(self):
        for title in TITLES:
            for lines in range(1, 5):
                if (title, lines) != ("plru", 3):
                    console = Console()
                    self.assertEqual(console.say(f"install abc {title} {lines}"), "ok")
                    self.assertEqual(console.rack.edits, (("install", "abc", ("cache", named(title, lines))),))

    def test_levels(self):
        for mode in ("plain", "inclusive", "victim"):
            console = Console()
            self.assertEqual(console.say(command=f"levels two {mode} lru 1 plru 4"), "ok")
            self.assertEqual(console.rack["two"], (mode, lru(1), plru(4)))
            self.assertEqual(console.rack.edits, (("install", "two", (mode, lru(1), plru(4))),))

    def test_drop_and_undo(self):
        console = two()
        self.assertEqual(console.say("drop z"), "ok")
        self.assertEqual(console.rack.names, ("x", "y"))
        self.assertEqual(console.say("undo"), "ok")
        self.assertEqual(console.rack.names, ("x", "y", "z"))
        for _ in range(3):
            self.assertEqual(console.say("undo"), "ok")
        self.assertEqual((console.rack.names, console.rack.edits), ((), ()))

    def test_bind(self):
        console = two()
        for text, ratio, excess in (
                ("2 0", (2, 1), (0, 1)), ("5/2 0", (5, 2), (0, 1)), ("3 1/7", (3, 1), (1, 7)), ("100 100", (100, 1), (100, 1)),
                ("1000000000000000000000000000000 7/3", (10 ** 30, 1), (7, 3)), ("2 10/3", (2, 1), (10, 3))):
            self.assertEqual(console.say("bind x y " + text), "ok")
            self.assertEqual(console.rack.limits, (("x", "y", ratio, excess),))
            self.assertEqual(console.rack.edits[-1], ("bind", "x", "y", ratio, excess))
        self.assertEqual(console.say("bind x x 1 0"), "ok")
        self.assertEqual(len(console.rack.limits), 2)

    def test_names(self):
        console = Console()
        self.assertEqual(console.say("names"), "none")
        console.say("install b lru 1")
        self.assertEqual(console.say("names"), "b")
        for name in ("c", "aa", "none"):
            console.say(f"install {name} lru 1")
        self.assertEqual(console.say("names"), "aa b c none")

    def test_bound(self):
        console = two()
        self.assertEqual(console.say("bound x y"), "2 0")
        self.assertEqual(console.say("bound x x"), "1 0")
        self.assertEqual(console.say("bound x z"), "1 0")
        self.assertEqual(console.say("bound z x"), "endless")
        console.rack.install("one", ("cache", (2, ((1, 1, (0, 1)), (0, 0, (1, 1))))))
        console.rack.install("other", ("cache", (2, ((1, 1, (0, 0)), (0, 1, (0, 1))))))
        self.assertEqual(console.say("bound one other"), "11/7 1/7")
        console.say("install m mru 2")
        console.say("install t lru 3")
        self.assertEqual(console.say("bound t m"), "3/2 0")

    def test_differ(self):
        console = two()
        self.assertEqual(console.say("differ x y"), "a b a c a")
        self.assertEqual(console.say("differ x x"), "alike")
        self.assertEqual(console.say("differ z x"), "a b a")
        console.say("install w bits 2")
        self.assertEqual(console.say("differ x w"), "alike")

    def test_run(self):
        console = two()
        self.assertEqual(console.say("run x a b a"), "--+")
        self.assertEqual(console.say("run x a"), "-")
        self.assertEqual(console.say("run z a a b"), "-+-")
        # Each run begins with the empty device.
        self.assertEqual(console.say("run x a b a"), "--+")
        self.assertEqual(console.say("run x " + "a bb abcdef " * 500 + "run names"), "-" * 1502)
        self.assertEqual(console.say("run x" + " a" * 2000), "-" + "+" * 1999)

    def test_words_that_are_names(self):
        console = Console()
        self.assertEqual(console.say("install undo lru 2"), "ok")
        self.assertEqual(console.say("install run fifo 2"), "ok")
        self.assertEqual(console.say("run run run undo run"), "--+")
        self.assertEqual(console.say("differ undo run"), "a b a c a")
        self.assertEqual(console.say("names"), "run undo")
        self.assertEqual(console.say("drop undo"), "ok")

    def test_every_command_against_rack_and_functions(self):
        chance = random.Random(1)
        console, rack = Console(), Rack()
        for _ in range(300):
            name, other, title = chance.choice("abc"), chance.choice("abc"), chance.choice(TITLES)
            lines = chance.randint(1, 2)
            names = [chance.choice("uvw") for _ in range(chance.randint(1, 6))]
            commands = {
                f"install {name} {title} {lines}": lambda: rack.install(name, ("cache", named(title, lines))),
                f"levels {name} victim {title} {lines} lru 1": lambda: rack.install(name, ("victim", named(title, lines), lru(1))),
                f"drop {name}": lambda: rack.drop(name),
                "undo": rack.undo,
                f"bind {name} {other} 3/2 1": lambda: rack.bind(name, other, (3, 2), (1, 1)),
                f"bind {name} {other} 2 1/2": lambda: rack.bind(name, other, (2, 1), (1, 2)),
                "names": lambda: " ".join(rack.names) or "none",
                f"bound {name} {other}": lambda: self.bound_of(rack, name, other),
                f"differ {name} {other}": lambda: self.differ_of(rack, name, other),
                f"run {name} " + " ".join(names): lambda: self.run_of(rack, name, names),
            }
            command = chance.choice(sorted(commands))
            right, wrong = outcome(commands[command])
            found, error = outcome(lambda: console.say(command))
            self.assertEqual(error, wrong, command)
            if wrong is None:
                self.assertEqual(found, "ok" if right is None else right)
            self.assertEqual((console.rack.names, console.rack.limits), (rack.names, rack.limits))
            self.assertEqual(console.rack, rack)
            self.assertEqual(console.rack.edits, rack.edits)

    def bound_of(self, rack, name, other):
        one, far = rack[name], rack[other]
        least = bound(one, far)
        return "endless" if least is None else " ".join(
            str(top) if bottom == 1 else str(top) + "/" + str(bottom) for top, bottom in least)

    def differ_of(self, rack, name, other):
        one, far = rack[name], rack[other]
        steps = difference(one, far)
        return "alike" if steps is None else " ".join(names_of(one, far, steps))

    def run_of(self, rack, name, names):
        return "".join("+" if hit else "-" for hit in answers(rack[name], tuple(names)))


def outcome(work):
    """Return what a function returns and None, or None and its error with its attributes."""
    try:
        return work(), None
    except (BrokenLimit, Limited, NameTaken, UnknownName, NothingToUndo) as error:
        return None, (error.__class__, vars(error))


class InvalidTest(ConsoleTest):

    def test_values_that_are_no_strings(self):
        console = two()
        for value in odd_values() + [("names",), ["names"], b"names", {"names": 1}, nested("names", 99)]:
            if not isinstance(value, str):
                self.check_invalid(console, value)
        check_parameters(self, console.say, ("command",), ("names",), {
            "command": [(value, InvalidCommand, {"command": value}) for value in odd_values()]})

    def test_what_is_none_of_the_commands(self):
        self.check_invalid(
            two(), "", " ", "  ", "name", "Names", "NAMES", "names names", "undo 1", "undo undo", "quit", "0", "exchange x lru 1", "unbind x y",
            "trial", "do_all", "limits", "edits", "help", "install", "bind", "drop", "bound", "differ", "run", "levels", "ok")

    def test_spaces_and_newlines(self):
        right = [
            "install w lru 2", "levels w plain lru 1 lru 2", "drop z", "undo", "bind x y 2 0", "names", "bound x y", "differ x y", "run x a b"]
        for command in right:
            console = two()
            words = command.split(" ")
            self.check_invalid(console, " " + command, command + " ", "\n" + command, command + "\n", command + "\n" + command)
            for at in range(1, len(words)):
                for gap in ("  ", "\n", " \n", "\n ", "   "):
                    self.check_invalid(console, " ".join(words[:at]) + gap + " ".join(words[at:]))
            console.say(command)

    def test_words_too_many_and_too_few(self):
        right = ["install w lru 2", "levels w plain lru 1 lru 2", "drop z", "bind x y 2 0", "bound x y", "differ x y", "undo", "names"]
        for command in right:
            console = two()
            for more in ("x", "2", "lru", "0", "a b"):
                self.check_invalid(console, command + " " + more)
            words = command.split(" ")
            for at in range(1, len(words)):
                self.check_invalid(console, " ".join(words[:at]))
        self.check_invalid(two(), "run x", "run")

    def test_numbers(self):
        console = two()
        for number in (
                "02", "00", "01", "+2", "-2", "-0", "2.0", "2/1", "1/2", "0x2", "two", "1e1", "2,", "1_0", "", "a", "lru", "#", "/", "2/", "(2)"):
            self.check_invalid(
                console, f"install w lru {number}", f"levels w plain lru {number} lru 2", f"levels w plain lru 2 lru {number}")
        self.assertEqual(console.say("install w lru 2"), "ok")

    def test_fractions(self):
        console = two()
        wrong = (
            "02", "00", "+2", "-2", "2.5", "2/1", "0/1", "4/2", "2/4", "6/4", "0/2", "0/5", "1/0", "0/0", "5/", "/2", "/", "5/02", "05/2",
            "5/+2", "5/-2", "-5/2", "5/2/1", "5//2", "1/2/3", "5:2", "a", "2/2", "5/2.0", "")
        for number in wrong:
            self.check_invalid(console, f"bind x y {number} 0", f"bind x y 3 {number}", f"bind x y {number} {number}")
        for number in ("2", "5/2", "100/7", "2147483648"):
            self.assertEqual(console.say(f"bind x y {number} 0"), "ok")
        for number in ("0", "1", "1/2", "7/3", "10"):
            self.assertEqual(console.say(f"bind x y 2 {number}"), "ok")

    def test_modes(self):
        for mode in ("cache", "Plain", "exclusive", "lru", "x", "0", "victims"):
            self.check_invalid(two(), f"levels w {mode} lru 1 lru 2")

    def test_the_form_comes_before_all_other_errors(self):
        console = two()
        # Names and titles that are none, and numbers of another form behind them.
        self.check_invalid(
            console, "install 5 none 02", "install X lru +1", "levels X none lru 1 lru 2", "levels x plain none 1 none 01",
            "levels x cache none 9 none 9", "bind q r 2/2 0", "bind Q R 1 01", "run q", "drop", "bound q", "differ Q")

    def test_nothing_has_happened(self):
        console = two()
        before = console.rack.edits
        self.check_invalid(console, "undo ", "drop z ", "install w lru 2\n", None)
        self.assertEqual(console.rack.edits, before)


class ErrorsTest(ConsoleTest):

    def test_install(self):
        console = two()
        self.refused(UnknownName, {"name": "LRU"}, console, "install w LRU 2")
        self.refused(UnknownName, {"name": "9"}, console, "install x 9 9")
        self.refused(InvalidLines, {"value": 5}, console, "install x lru 5")
        self.refused(InvalidLines, {"value": 0}, console, "install W lru 0")
        self.refused(InvalidLines, {"value": 3}, console, "install w plru 3")
        self.refused(InvalidLines, {"value": 10 ** 39}, console, "install w lru " + str(10 ** 39))
        self.refused(InvalidName, {"value": "W"}, console, "install W lru 2")
        self.refused(InvalidName, {"value": "abcdefg"}, console, "install abcdefg lru 2")
        self.refused(NameTaken, {"name": "x"}, console, "install x lru 2")
        for letter in "abcdefghijklmnopq":
            console.say(f"install a{letter} lru 1")
        self.refused(TooManyDevices, {"limit": 20}, console, "install w lru 2")
        self.refused(NameTaken, {"name": "x"}, console, "install x lru 2")

    def test_levels(self):
        console = two()
        # From left to right: the first title, its number, the second title, its number, and then the name.
        self.refused(UnknownName, {"name": "u"}, console, "levels x plain u 9 v 9")
        self.refused(InvalidLines, {"value": 9}, console, "levels x plain lru 9 v 9")
        self.refused(UnknownName, {"name": "v"}, console, "levels x plain lru 4 v 9")
        self.refused(InvalidLines, {"value": 9}, console, "levels x plain lru 4 lru 9")
        self.refused(InvalidLines, {"value": 3}, console, "levels x plain plru 3 plru 9")
        self.refused(NameTaken, {"name": "x"}, console, "levels x plain lru 4 lru 4")
        self.refused(InvalidName, {"value": "X"}, console, "levels X plain lru 4 lru 4")

    def test_drop_and_undo(self):
        console = two()
        self.refused(InvalidName, {"value": "X"}, console, "drop X")
        self.refused(InvalidName, {"value": "1"}, console, "drop 1")
        self.refused(UnknownName, {"name": "w"}, console, "drop w")
        console.say("bind x z 1 0")
        self.refused(Limited, {"name": "x", "other": "z"}, console, "drop z")
        for _ in range(4):
            console.say("undo")
        self.refused(NothingToUndo, {}, console, "undo")

    def test_bind(self):
        console = two()
        self.refused(InvalidName, {"value": "X"}, console, "bind X Y 1 0")
        self.refused(UnknownName, {"name": "v"}, console, "bind v Y 1 0")
        self.refused(InvalidName, {"value": "Y"}, console, "bind x Y 1 0")
        self.refused(UnknownName, {"name": "w"}, console, "bind x w 1 0")
        self.refused(BrokenLimit, {"name": "x", "other": "y"}, console, "bind x y 1 0")
        self.refused(BrokenLimit, {"name": "x", "other": "y"}, console, "bind x y 3/2 100")
        self.refused(BrokenLimit, {"name": "x", "other": "y"}, console, "bind x y 0 0")
        self.refused(BrokenLimit, {"name": "z", "other": "x"}, console, "bind z x 9 9")

    def test_bound_and_differ(self):
        console = two()
        for word in ("bound", "differ"):
            self.refused(InvalidName, {"value": "X"}, console, word + " X Y")
            self.refused(UnknownName, {"name": "w"}, console, word + " w Y")
            self.refused(InvalidName, {"value": "Y"}, console, word + " x Y")
            self.refused(UnknownName, {"name": "w"}, console, word + " x w")
            self.refused(UnknownName, {"name": "w"}, console, word + " w v")
        console.say("levels u plain mru 4 clock 4")
        console.say("levels v victim lru 3 fifo 3")
        for word in ("bound u v", "differ u v", "bind u v 1 0"):
            self.refused(TooManySituations, {"limit": 600}, console, word)

    def test_run(self):
        console = two()
        self.refused(InvalidName, {"value": "X"}, console, "run X A")
        self.refused(UnknownName, {"name": "w"}, console, "run w A")
        self.refused(InvalidHistory, {"index": 0}, console, "run x A")
        self.refused(InvalidHistory, {"index": 2}, console, "run x a b 1 A")
        self.refused(InvalidHistory, {"index": 1}, console, "run x a abcdefg")
        self.refused(InvalidHistory, {"index": None}, console, "run x" + " a" * 2001)
        self.refused(InvalidHistory, {"index": None}, console, "run x" + " A" * 2001)

    def test_too_many_edits(self):
        console = two()
        for _ in range(197):
            console.say("bind x y 2 0")
        self.refused(TooManyEdits, {"limit": 200}, console, "bind x y 2 0")
        self.refused(TooManyEdits, {"limit": 200}, console, "install w lru 1")
        self.refused(TooManyEdits, {"limit": 200}, console, "drop z")
        self.refused(UnknownName, {"name": "w"}, console, "drop w")
        self.assertEqual(console.say("undo"), "ok")
        self.assertEqual(console.say("drop z"), "ok")


class ObjectTest(ConsoleTest):

    def test_rack(self):
        console = Console()
        self.assertIs(console.rack.__class__, Rack)
        self.assertIs(console.rack, console.rack)
        console.rack.install("q", ("cache", mru(2)))
        self.assertEqual(console.say("names"), "q")
        self.assertEqual(console.say("run q a b c a"), "---+")
        console.say("install r fifo 2")
        self.assertEqual(console.rack["r"], ("cache", fifo(2)))
        self.assertEqual(len(console.rack), 2)

    def test_equality(self):
        one, other = Console(), Console()
        self.assertIs(one == one, True)
        self.assertIs(one != one, False)
        self.assertIs(one == other, False)
        self.assertIs(one != other, True)
        for value in (one.rack, None, 0, "", (), Rack()):
            self.assertIs(one == value, False)
        # Their racks may be equal.
        self.assertEqual(one.rack, other.rack)

    def test_the_same_again(self):
        for command in ("bound x y", "differ x y", "run x a b", "names"):
            console = two()
            self.assertEqual(console.say(command), console.say(command))
            self.assertEqual(console.say(command), two().say(command))

    def test_example(self):
        run_example(self, '''
            >>> from missbounds.console import Console
            >>> console = Console()
            >>> first = [console.say("install x lru 2"), console.say("install y fifo 2"), console.say("bound x y"), console.say("differ x y")]
            >>> first + [console.say("run x a b a"), console.say("bind x y 5/2 0"), console.say("names"), console.say("undo"), console.rack.limits]
            ['ok', 'ok', '2 0', 'a b a c a', '--+', 'ok', 'x y', 'ok', ()]
        ''')


if __name__ == "__main__":
    unittest.main()
