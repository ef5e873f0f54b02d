import itertools
import random
import unittest

from accounts import account_answers
from helper import odd_values, run_example
from missbounds import catalog
from missbounds.catalog import bits, clock, fifo, lifo, lru, mru, named, plru
from missbounds.errors import InvalidLines, UnknownName
from missbounds.plains import plain
from missbounds.policies import is_policy
from missbounds.traces import answers
from plainforms import plain_form
from refused import check_parameters, check_refused, values_told
from samples import random_history

MAKERS = {"lru": lru, "mru": mru, "fifo": fifo, "lifo": lifo, "clock": clock, "bits": bits, "plru": plru}
ALL = [(title, lines) for title in MAKERS for lines in (1, 2, 3, 4) if (title, lines) != ("plru", 3)]
WRONG_LINES = [0, 5, 6, -1, 10 ** 39, -10 ** 39, "2", "1", (2,), [2], {2: 2}, {1}, 64]


def marks(title, lines, text):
    """Return the answers of a policy to the letters of a text as a text of + and -."""
    told = answers(("cache", MAKERS[title](lines)), tuple(text))
    return "".join("+" if answer else "-" for answer in told)


class AccountsTest(unittest.TestCase):

    def check(self, title, lines, history):
        told = answers(("cache", MAKERS[title](lines)), history)
        self.assertEqual(told, account_answers(title, lines, history), (title, lines, history))

    def test_all_short_histories(self):
        for title, lines in ALL:
            letters = tuple("abcdef"[:lines + 1])
            for length in range(1, 8 if lines < 3 else 6):
                for history in itertools.product(letters, repeat=length):
                    self.check(title, lines, history)

    def test_all_histories_of_a_full_cache(self):
        for title, lines in ALL:
            full = tuple("abcd"[:lines])
            for history in itertools.product(tuple("abcdef"[:lines + 1]), repeat=5 if lines > 3 else 6):
                self.check(title, lines, full + history)

    def test_long_histories(self):
        chance = random.Random(7)
        for title, lines in ALL:
            for many in (2, 3, 4, 5, 6, 8):
                for _ in range(6):
                    self.check(title, lines, random_history(chance, tuple("abcdefgh"[:many]), 400))

    def test_by_hand(self):
        self.assertEqual(marks("lru", 3, "abcabdcab"), "---++----")
        self.assertEqual(marks("mru", 3, "abcabdcab"), "---++-++-")
        self.assertEqual(marks("fifo", 3, "abcabdcab"), "---++-+--")
        self.assertEqual(marks("lifo", 3, "abcabdcab"), "---++--++")
        # The bits of a and b are 1 before d comes; the hand clears all and takes line 0.
        self.assertEqual(marks("clock", 3, "abcadbcad"), "---+-++-+")
        # d takes the place of a and the hand is at b, whose bit was cleared and is set again by the hit.
        self.assertEqual(marks("clock", 3, "abcdbeb"), "----+-+")
        self.assertEqual(marks("clock", 3, "abcdec"), "-----+")
        # Behind c only its bit is 1, so d takes line 0, and then a takes line 1.
        self.assertEqual(marks("bits", 3, "abcdabc"), "------+")
        self.assertEqual(marks("bits", 3, "abcdab"), "------")
        self.assertEqual(marks("bits", 4, "abcdbeabc"), "----+--+-")
        # The bits send b to the other half, c to line 1 and d to line 3.
        self.assertEqual(marks("plru", 4, "abcdeabcd"), "---------")
        self.assertEqual(marks("plru", 4, "abcdeb"), "-----+")

    def test_policies_of_one_line_are_equal(self):
        for title in MAKERS:
            self.assertEqual(named(title, 1), (1, ((0, 1, (0,)), (0, 1, (1,)))))

    def test_plru_fills_lines_as_the_bits_tell(self):
        # a, b and c come to the lines 0, 2 and 1. The hit on b points to line 0, so d takes the place of a,
        # though line 3 is empty, and a comes to line 3.
        self.assertEqual(marks("plru", 4, "abcbda"), "---+--")
        self.assertEqual(marks("plru", 4, "abcbdadbc"), "---+--+++")
        self.assertEqual(marks("plru", 4, "abcda"), "----+")


class FormTest(unittest.TestCase):

    def test_all_are_policies_with_so_many_lines(self):
        for title, lines in ALL:
            policy = MAKERS[title](lines)
            self.assertIs(is_policy(policy), True)
            self.assertEqual(policy[0], lines)
            self.assertEqual(MAKERS[title](lines=lines), policy)
            self.assertEqual(MAKERS[title](lines), policy)

    def test_each_is_its_own_plain_form(self):
        for title, lines in ALL:
            policy = MAKERS[title](lines)
            self.assertEqual(plain(policy), policy)
            self.assertEqual(plain_form(policy), policy)

    def test_numbers_of_rows(self):
        counts = {title: tuple([len(named(title, lines)[1]) for lines in (1, 2, 3, 4) if (title, lines) in ALL])
                  for title in MAKERS}
        # lru has a row for each order of the lines that are filled: 1 + 1 + 2 + 6 + 24. fifo and lifo only fill.
        self.assertEqual(counts["lru"], (2, 4, 10, 34))
        self.assertEqual(counts["fifo"], (2, 4, 6, 8))
        self.assertEqual(counts["lifo"], (2, 3, 4, 5))
        self.assertEqual(counts["mru"], (2, 4, 6, 8))

    def test_some_written_out(self):
        self.assertEqual(lru(2), (2, ((0, 1, (0, 0)), (1, 2, (1, 1)), (0, 3, (3, 2)), (1, 2, (3, 2)))))
        self.assertEqual(mru(2), (2, ((0, 1, (0, 0)), (1, 2, (1, 1)), (1, 2, (3, 2)), (0, 3, (3, 2)))))
        self.assertEqual(fifo(2), (2, ((0, 1, (0, 0)), (1, 2, (1, 1)), (0, 3, (2, 2)), (1, 2, (3, 3)))))
        self.assertEqual(lifo(2), (2, ((0, 1, (0, 0)), (1, 2, (1, 1)), (1, 2, (2, 2)))))
        self.assertEqual(clock(2), fifo(2))
        self.assertEqual(bits(2), lru(2))
        self.assertEqual(plru(2), lru(2))
        self.assertEqual(fifo(3), (3, (
            (0, 1, (0, 0, 0)), (1, 2, (1, 1, 1)), (2, 3, (2, 2, 2)), (0, 4, (3, 3, 3)), (1, 5, (4, 4, 4)),
            (2, 3, (5, 5, 5)))))
        self.assertEqual(lifo(3), (3, (
            (0, 1, (0, 0, 0)), (1, 2, (1, 1, 1)), (2, 3, (2, 2, 2)), (2, 3, (3, 3, 3)))))
        self.assertEqual(mru(3), (3, (
            (0, 1, (0, 0, 0)), (1, 2, (1, 1, 1)), (2, 3, (2, 2, 2)), (2, 3, (4, 5, 3)), (0, 4, (4, 5, 3)),
            (1, 5, (4, 5, 3)))))


class NamedTest(unittest.TestCase):

    def test_right_titles(self):
        for title, lines in ALL:
            self.assertEqual(named(title, lines), MAKERS[title](lines))
            self.assertEqual(named(title=title, lines=lines), getattr(catalog, title)(lines))

    def test_wrong_titles(self):
        titles = ["LRU", "Lru", " lru", "lru ", "lru\n", "", "named", "plain", "lruu", "l", "check_lines", "cache"]
        titles += odd_values() + [0, 1, ("lru",), ["lru"], {"lru": 1}, b"lru", lru]
        for title in titles:
            for lines in (1, 3, 0, 5, True, None, "2"):
                check_refused(self, UnknownName, {"name": title}, named, title, lines)
                check_refused(self, UnknownName, {"name": title}, named, lines=lines, title=title)

    def test_wrong_lines(self):
        for title in MAKERS:
            for value in WRONG_LINES + odd_values():
                check_refused(self, InvalidLines, {"value": value}, named, title, value)
                check_refused(self, InvalidLines, {"value": value}, named, title=title, lines=value)
        check_refused(self, InvalidLines, {"value": 3}, named, "plru", 3)


class WrongInputTest(unittest.TestCase):

    def test_each_policy(self):
        wrong = {"lines": values_told(InvalidLines, WRONG_LINES + odd_values())}
        for maker in MAKERS.values():
            check_parameters(self, maker, ("lines",), (2,), wrong)
        check_refused(self, InvalidLines, {"value": 3}, plru, 3)
        check_refused(self, InvalidLines, {"value": 3}, plru, lines=3)


class ExampleTest(unittest.TestCase):

    def test_examples_of_the_document(self):
        run_example(self, """
>>> from missbounds.catalog import fifo, lru, mru
>>> from missbounds.traces import answers
>>> history = ("a", "b", "a", "c", "b", "a")
>>> [answers(("cache", lru(2)), history), answers(("cache", fifo(2)), history), answers(("cache", mru(2)), history)]
[(False, False, True, False, False, False), (False, False, True, False, True, False), (False, False, True, False, True, False)]
""")


if __name__ == "__main__":
    unittest.main()
