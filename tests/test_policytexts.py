import copy
import random
import unittest

from helper import nested, odd_values, run_example
from missbounds.errors import InvalidDevice, InvalidProgram, InvalidText
from missbounds.policytexts import read_device, read_program, write_device, write_program
from missbounds.policies import is_device
from missbounds.programs import is_program
from refused import check_parameters, check_refused, values_told
from samples import (
    FOUR, LEVELS, LRU, ONE, THREE, policy_of, random_device, right_devices, small_devices, wrong_devices, wrong_names,
)

MODES = ("cache",) + LEVELS
LOOP = (("a", (1,)), ("bb", (0, 2)), ("ccc", (0, 1, 2)), ("a", ()))
LOOP_TEXT = "a 1\nbb 0 2\nccc 0 1 2\na"
LRU_TEXT = "lines 2\n0 1 1 0\n1 0 1 0"
ONE_TEXT = "lines 1\n0 0 0"


def full_program(places):
    """Return a program of so many places, each with all places as targets, and with eight names."""
    return tuple([("abcdefgh"[place % 8], tuple(range(places))) for place in range(places)])


def some_devices():
    chance = random.Random(51)
    return right_devices() + [random_device(chance, mode, most_states=64) for mode in MODES for _ in range(5)]


def is_beginning_of_device(texts):
    """Return whether lines are the beginning of the text of a device, told by the words of the document.

    It goes by what may still come: behind the lines, states up to 63 can get their rows.
    """
    if not texts:
        return True
    if texts[0] not in MODES:
        return False
    blocks = [[]]
    for text in texts[1:]:
        if text.startswith("lines "):
            blocks.append([])
        blocks[-1].append(text)
    if blocks[0] or len(blocks) > (2 if texts[0] == "cache" else 3):
        return False
    blocks = blocks[1:]
    return all([is_block(block, at + 1 < len(blocks)) for at, block in enumerate(blocks)])


def is_block(block, ended):
    """Return whether lines are the text of a policy, or its beginning if it is not ended."""
    if block[0] not in ("lines 1", "lines 2", "lines 3", "lines 4"):
        return False
    lines = int(block[0][-1])
    rows = []
    for text in block[1:]:
        parts = text.split(" ")
        if not all([part.isdigit() and str(int(part)) == part for part in parts]) or len(parts) != lines + 2:
            return False
        rows.append([int(part) for part in parts])
    if len(rows) > 64 or any([row[0] >= lines or max(row[1:]) > 63 for row in rows]):
        return False
    return not ended or bool(rows) and max([max(row[1:]) for row in rows]) < len(rows)


def is_beginning_of_program(texts):
    """Return whether lines are the beginning of the text of a program."""
    names = set()
    for text in texts:
        name, *targets = text.split(" ")
        names.add(name)
        if not (1 <= len(name) <= 6 and all(letter in "abcdefghijklmnopqrstuvwxyz" for letter in name)):
            return False
        if not all([part.isdigit() and str(int(part)) == part and int(part) < 30 for part in targets]):
            return False
        numbers = [int(part) for part in targets]
        if numbers != sorted(set(numbers)):
            return False
    return len(texts) <= 30 and len(names) <= 8


def changed_texts(text):
    """Yield texts that differ from a text in a line, or in a part of one."""
    texts = text.split("\n")
    for at, line in enumerate(texts):
        for other in changed_lines(line):
            yield "\n".join(texts[:at] + [other] + texts[at + 1:])
        yield "\n".join(texts[:at] + texts[at + 1:])
        yield "\n".join(texts[:at] + [line, line] + texts[at + 1:])
        yield "\n".join(texts[:at] + [""] + texts[at:])
        yield "\n".join(texts[:at + 1])
        for later in range(at + 1, len(texts)):
            yield "\n".join(texts[:at] + [texts[later]] + texts[at + 1:later] + [line] + texts[later + 1:])
    yield text + "\n"
    yield "\n" + text
    yield text + "\n\n"
    yield text + " "
    yield text.replace("\n", " ")
    yield text.replace("\n", "\n\n")


def changed_lines(line):
    """Yield lines that differ from a line a little."""
    yield from ("", " ", " " + line, line + " ", line + "x", "x" + line, line + " 0", line + " 1", line + " 63", line + " 64")
    yield from (line.upper(), line.replace(" ", "  "), line.replace(" ", ""), line[:-1], line[1:], line.replace(" ", ","))
    parts = line.split(" ")
    for at, part in enumerate(parts):
        yield " ".join(parts[:at] + parts[at + 1:])
        yield " ".join(parts[:at] + [part, part] + parts[at + 1:])
        for other in ("0" + part, "+" + part, "-" + part, part + "0", "00", "-0", "+1", "1", "4", "5", "29", "30", "31", "63",
                      "64", "65", "100", "9" * 40, "x", "lines", "cache", "1.0", "0x1", "1_0", "a", "zzzzzz", "abcdefg"):
            yield " ".join(parts[:at] + [other] + parts[at + 1:])


class ReadTest(unittest.TestCase):

    def check(self, read, write, is_value, is_beginning, text):
        """Check that a text is read as what has this text, or refused at the first line that no such text has."""
        texts = text.split("\n")
        firsts = [at for at in range(len(texts)) if not is_beginning(texts[:at + 1])]
        index = firsts[0] if firsts else len(texts)
        try:
            found = read(text)
        except InvalidText as error:
            self.assertEqual(error.line, index, text)
            return False
        self.assertEqual(firsts, [], text)
        self.assertIs(is_value(found), True)
        self.assertEqual(write(found), text)
        return True

    def check_device(self, text):
        return self.check(read_device, write_device, is_device, is_beginning_of_device, text)

    def check_program(self, text):
        return self.check(read_program, write_program, is_program, is_beginning_of_program, text)


class DeviceTest(ReadTest):

    def test_texts_by_hand(self):
        self.assertEqual(write_device(("cache", LRU)), "cache\n" + LRU_TEXT)
        self.assertEqual(write_device(device=("victim", ONE, LRU)), "victim\n" + ONE_TEXT + "\n" + LRU_TEXT)
        self.assertEqual(write_device(("plain", LRU, ONE)), "plain\n" + LRU_TEXT + "\n" + ONE_TEXT)
        self.assertEqual(write_device(("inclusive", THREE, ONE)),
                         "inclusive\nlines 3\n2 1 0 1 0\n0 0 1 1 1\nlines 1\n0 0 0")
        self.assertEqual(read_device("cache\n" + LRU_TEXT), ("cache", LRU))
        self.assertEqual(read_device(text="victim\n" + ONE_TEXT + "\n" + LRU_TEXT), ("victim", ONE, LRU))

    def test_there_and_back(self):
        for device in some_devices():
            text = write_device(device)
            self.assertIsInstance(text, str)
            self.assertEqual(read_device(text), device)
            self.assertTrue(self.check_device(text))

    def test_texts_that_are_changed_a_little(self):
        right = 0
        for device in small_devices() + [("cache", ONE), ("cache", FOUR), ("victim", ONE, ONE), ("plain", FOUR, THREE)]:
            for text in changed_texts(write_device(device)):
                right += self.check_device(text)
        self.assertGreater(right, 20)

    def test_texts_that_end_early(self):
        for device in right_devices():
            texts = write_device(device).split("\n")
            for many in sorted({1, 2, 3, len(texts) // 2, len(texts) - 1} - {len(texts), 0}):
                self.check_device("\n".join(texts[:many]))
        self.check_line("", 0)
        self.check_line("cache", 1)
        self.check_line("victim", 1)
        self.check_line("cache\nlines 2", 2)
        self.check_line("plain\n" + LRU_TEXT, 4)
        self.check_line("plain\n" + LRU_TEXT + "\nlines 1", 5)
        self.check_line("cache\nlines 1\n0 2 0\n0 0 0", 4)

    def check_line(self, text, line):
        check_refused(self, InvalidText, {"line": line}, read_device, text)
        check_refused(self, InvalidText, {"line": line}, read_device, text=text)
        self.assertFalse(self.check_device(text))

    def test_empty_lines(self):
        self.check_line("\n", 0)
        self.check_line("cache\n", 1)
        self.check_line("cache\n\n" + LRU_TEXT, 1)
        self.check_line("cache\n" + LRU_TEXT + "\n", 4)
        self.check_line("cache\n" + LRU_TEXT + "\n\n", 4)
        self.check_line("plain\n" + LRU_TEXT + "\n\n" + LRU_TEXT, 4)
        self.check_line("plain\n" + LRU_TEXT + "\n" + LRU_TEXT + "\n", 7)

    def test_first_lines(self):
        for word in ("Cache", "cache ", " cache", "cache 1", "caches", "levels", "lines 1", "a", "lru", "plain inclusive"):
            self.check_line(word + "\n" + LRU_TEXT, 0)
        for word in ("lines 0", "lines 5", "lines", "lines 01", "lines 2 2", "line 2", "2", "lines +2", "lines  2", "Lines 2",
                     "lines 22", "lines two", "lines 2 "):
            self.check_line("cache\n" + word + "\n0 0 0 0", 1)
            self.check_line("plain\n" + ONE_TEXT + "\n" + word + "\n0 0 0 0", 3)

    def test_states_that_are_too_great(self):
        self.check_line("cache\nlines 1\n0 63 0", 3)
        self.check_line("cache\nlines 1\n0 0 63", 3)
        self.check_line("cache\nlines 1\n0 64 0", 2)
        self.check_line("cache\nlines 1\n0 0 64", 2)
        self.check_line("cache\nlines 1\n0 0 0\n0 64 0\n0 0 0", 3)
        self.check_line("cache\nlines 1\n1 0 0", 2)
        self.check_line("cache\nlines 4\n4 0 0 0 0 0", 2)

    def test_a_lower_policy_that_comes_too_early(self):
        self.check_line("plain\nlines 1\n0 1 0\nlines 1\n0 0 0", 3)
        self.check_line("plain\nlines 1\nlines 1\n0 0 0", 2)
        self.check_line("plain\nlines 1\n0 0 63\nlines 1\n0 0 0", 3)
        self.check_line("victim\nlines 1\n0 0 0\nlines 1\n0 1 0", 5)
        self.check_line("victim\n" + ONE_TEXT + "\n" + ONE_TEXT + "\n" + ONE_TEXT, 5)
        self.check_line("cache\n" + ONE_TEXT + "\n" + ONE_TEXT, 3)

    def test_63_64_and_65_rows(self):
        for many in (63, 64):
            rows = "\n".join(["0 0 0"] * (many - 1) + [f"0 {many - 1} 0"])
            self.assertEqual(len(read_device("cache\nlines 1\n" + rows)[1][1]), many)
            self.assertEqual(len(read_device("plain\nlines 1\n" + rows + "\nlines 1\n" + rows)[2][1]), many)
            self.check_line("plain\nlines 1\n" + rows, many + 2)
        self.check_line("cache\nlines 1\n" + rows + "\n0 0 0", 66)
        self.check_line("cache\nlines 1\n" + rows + "\n0 64 0\n0 0 0", 66)
        self.check_line("plain\nlines 1\n" + rows + "\n0 0 0\nlines 1\n0 0 0", 66)
        self.check_line("plain\nlines 1\n" + rows + "\nlines 1\n" + rows + "\n0 0 0", 131)
        self.check_line("cache\nlines 1\n" + "\n".join(["0 63 0"] * 63), 65)
        self.assertEqual(len(read_device("cache\nlines 1\n" + "\n".join(["0 63 0"] * 64))[1][1]), 64)

    def test_values_that_are_no_texts(self):
        for value in odd_values() + [0, b"cache", ("cache", LRU), ["cache"], nested((), 99)]:
            if not isinstance(value, str):
                check_refused(self, InvalidText, {"line": None}, read_device, value)
                check_refused(self, InvalidText, {"line": None}, read_device, text=value)
            else:
                self.check_device(value)

    def test_wrong_devices(self):
        values = odd_values() + [0, LRU, ["cache", LRU], "cache\n" + LRU_TEXT, *list(wrong_devices())]
        check_parameters(self, write_device, ("device",), (("cache", LRU),), {"device": values_told(InvalidDevice, values)})


class ProgramTest(ReadTest):

    def test_texts_by_hand(self):
        self.assertEqual(write_program(LOOP), LOOP_TEXT)
        self.assertEqual(write_program(program=(("zzzzzz", ()),)), "zzzzzz")
        self.assertEqual(read_program(LOOP_TEXT), LOOP)
        self.assertEqual(read_program(text="a"), (("a", ()),))
        self.assertEqual(read_program("a 0"), (("a", (0,)),))

    def test_there_and_back(self):
        programs = [LOOP, (("a", (0,)),), full_program(1), full_program(8), full_program(29), full_program(30)]
        for program in programs:
            self.assertEqual(read_program(write_program(program)), program)
            self.assertTrue(self.check_program(write_program(program)))

    def test_texts_that_are_changed_a_little(self):
        right = 0
        for program in (LOOP, (("a", (0,)),), full_program(9), (("x", ()),)):
            for text in changed_texts(write_program(program)):
                right += self.check_program(text)
        self.assertGreater(right, 20)

    def check_line(self, text, line):
        check_refused(self, InvalidText, {"line": line}, read_program, text)
        check_refused(self, InvalidText, {"line": line}, read_program, text=text)
        self.assertFalse(self.check_program(text))

    def test_lines_that_are_none_of_a_program(self):
        self.check_line("", 0)
        self.check_line("\n", 0)
        self.check_line("a\n", 1)
        self.check_line("a 1\nb 0\n", 2)
        self.check_line("0 1", 0)
        self.check_line("A", 0)
        self.check_line("abcdefg", 0)
        self.check_line("a 1 0\nb", 0)
        self.check_line("a 0 0", 0)
        self.check_line("a 0\nb 1 1", 1)
        self.check_line("a  0", 0)
        self.check_line("a 0 ", 0)
        self.check_line(" a 0", 0)
        self.check_line("a 00", 0)
        self.check_line("a 01\nb", 0)
        self.check_line("a +0", 0)
        self.check_line("a -1", 0)
        self.check_line("a 0,1\nb", 0)
        self.check_line("a\nb\nc d", 2)
        for name in wrong_names():
            if isinstance(name, str) and "\n" not in name:
                self.check_program("a\n" + name + " 0")

    def test_targets_that_are_too_great(self):
        self.check_line("a 1", 1)
        self.check_line("a 29", 1)
        self.check_line("a 30", 0)
        self.check_line("a 31", 0)
        self.check_line("a 0\nb 2", 2)
        self.check_line("a 0\nb 30\nc", 1)
        self.check_line("a 0 29\nb 1 30", 1)
        self.check_line("\n".join(["a 29"] * 29), 29)
        self.assertEqual(len(read_program("\n".join(["a 29"] * 30))), 30)

    def test_30_and_31_places(self):
        self.assertEqual(read_program("\n".join(["a"] * 30)), (("a", ()),) * 30)
        self.assertEqual(read_program("\n".join(["a"] * 29)), (("a", ()),) * 29)
        self.check_line("\n".join(["a"] * 31), 30)
        self.check_line("\n".join(["a"] * 64), 30)
        self.check_line("\n".join(["a"] * 30 + ["b 30"]), 30)

    def test_eight_and_nine_names(self):
        eight = "\n".join("abcdefgh")
        self.assertEqual(len(read_program(eight)), 8)
        self.assertEqual(len(read_program(eight + "\n" + eight + "\na")), 17)
        self.check_line(eight + "\ni", 8)
        self.check_line(eight + "\na\nb\ni\na", 10)
        self.check_line("a 29\n" + eight + "\ni", 9)

    def test_values_that_are_no_texts(self):
        for value in odd_values() + [0, b"a", LOOP, ["a"], ("a",), nested((), 99)]:
            if not isinstance(value, str):
                check_refused(self, InvalidText, {"line": None}, read_program, value)
                check_refused(self, InvalidText, {"line": None}, read_program, text=value)
            else:
                self.check_program(value)

    def test_wrong_programs(self):
        values = odd_values() + [0, LOOP_TEXT, list(LOOP), (), (("a", (1,)),), (("a", (0, 0)),), (("a", [0]),), LOOP * 8]
        values += [(("A", ()),), full_program(8) + (("i", ()),), (("a", ()),) * 31, ("a",), (("a",),), ("cache", LRU)]
        check_parameters(self, write_program, ("program",), (LOOP,), {"program": values_told(InvalidProgram, values)})


class SameAgainTest(unittest.TestCase):

    def test_arguments_are_not_modified_and_results_are_the_same_again(self):
        for device in right_devices():
            before = copy.deepcopy(device)
            self.assertEqual(write_device(device), write_device(device))
            self.assertEqual(device, before)
            text = write_device(device)
            self.assertEqual(read_device(text), read_device(text))
        self.assertEqual(write_program(LOOP), write_program(LOOP))
        self.assertEqual(read_program(LOOP_TEXT), read_program(LOOP_TEXT))

    def test_large_policies(self):
        for lines in (1, 2, 3, 4):
            device = ("victim", policy_of(lines, 64), policy_of(5 - lines, 64))
            self.assertEqual(read_device(write_device(device)), device)


class ExampleTest(unittest.TestCase):

    def test_examples_of_the_document(self):
        run_example(self, """
>>> from missbounds.policytexts import read_device, read_program, write_device
>>> lru = (2, ((0, 1, (1, 0)), (1, 0, (1, 0))))
>>> [write_device(("cache", lru)), read_device(write_device(("plain", lru, lru))) == ("plain", lru, lru), read_program("a 1\\nb 0 1")]
['cache\\nlines 2\\n0 1 1 0\\n1 0 1 0', True, (('a', (1,)), ('b', (0, 1)))]
""")
        check_refused(self, InvalidText, {"line": 3}, read_device, "cache\nlines 1\n0 1 0")
        check_refused(self, InvalidText, {"line": 2}, read_device, "cache\nlines 1\n0  0 0")


if __name__ == "__main__":
    unittest.main()
