"""Claims with evidence that was written by hand, for each word, and what the tests of the checker ask."""

import unittest

from missbounds.checker import accepts
from samples import LRU, ONE

# A cache of one line, and one of two lines that replaces the name that was requested longest ago.
SINGLE = ("cache", ONE)
DOUBLE = ("cache", LRU)
# Line 1 takes all names but the first one, so line 0 keeps its name if there is no hit on it.
KEEPS = (2, ((0, 1, (0, 0)), (1, 1, (1, 1))))

# The situations of the single cache with itself, and those of the single and the double one.
BEGIN = ((0, 0), (None, None))
FULL = ((0, 0), (0, 0))
START = ((0, 0), (None, None, None))
FIRST = ((0, 1), (0, 0, None))
EVEN = ((0, 0), (0, 1, 0))
ODD = ((0, 1), (0, 0, 1))

# Two places that follow one another for ever, and one to which nothing leads.
ROUND = (("a", (1,)), ("b", (0,)), ("c", ()))
# A place that may come again, and an end.
LOOP = (("a", (0, 1)), ("b", ()))
# The moments of the double cache in it.
EMPTY = (0, (0,), (None, None))
AGAIN = (0, (1,), ("a", None))
END = (1, (1,), ("a", None))

RIGHT = {
    "within": (
        ("within", DOUBLE, SINGLE, None, (1, 1), (0, 1)),
        tuple([(situation, (0, 1)) for situation in (
            ((0, 0), (None, None, None)), ((1, 0), (0, None, 0)), ((0, 0), (0, 1, 1)), ((1, 0), (0, 1, 0)))]),
    ),
    "reached": (("reached", DOUBLE, SINGLE, None, (1, 1), (0, 1)), ((0, 1), (2, 2), ())),
    "endless": (("endless", SINGLE, DOUBLE, None), ((0, 1), (1, 1))),
    "alike": (("alike", SINGLE, SINGLE, None), (BEGIN, FULL)),
    "differ": (("differ", SINGLE, DOUBLE, None), (0, 1, 1)),
    "inside": (("inside", SINGLE, DOUBLE, None), (START, FIRST, EVEN, ODD)),
    "outside": (("outside", DOUBLE, SINGLE, None), (0, 1)),
    "forgets": (
        ("forgets", LRU, 2),
        (
            ((0, (False, False)), (1, (True, False)), (0, (True, True)), (1, (True, True))),
            (
                ((1, (True, None)), 1), ((1, (True, True)), 1), ((0, (True, True)), 1),
                ((0, (True, False)), 0), ((1, (False, True)), 0),
            ),
        ),
    ),
    "remembers": (("remembers", LRU, 1), ((2, 2), (2,))),
    "never forgets": (("never forgets", KEEPS), ((2,), (2,), (2,))),
    "always": (("always", DOUBLE, LOOP, 1, False), (EMPTY, AGAIN, END)),
    "sometimes": (("sometimes", DOUBLE, LOOP, 0, True), (0, 0)),
    "at most": (("at most", DOUBLE, LOOP, 2), ((EMPTY, 2), (AGAIN, 1), (END, 1))),
    "so many": (("so many", DOUBLE, LOOP, 2), (0, 0, 0, 1)),
    "no most": (("no most", SINGLE, ROUND), ((0,), (1, 0))),
    "least": (
        ("least", ("a", "b", "c", "a", "b"), 2, 4), ((True, False, False, False, False), (0, 0, 1, 0, 0)),
    ),
    "answers": (("answers", DOUBLE, ("a", "b", "a"), (False, False, True)), None),
}


class ClaimTest(unittest.TestCase):
    """Tests that ask the checker about some evidence for a claim."""

    def accepted(self, claim, *all_evidence):
        for evidence in all_evidence:
            self.assertIs(accepts(claim, evidence), True, evidence)

    def rejected(self, claim, *all_evidence):
        for evidence in all_evidence:
            self.assertIs(accepts(claim, evidence), False, evidence)
