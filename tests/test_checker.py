"""What holds for the claims of all words alike; what is said about each word is tested beside this."""

import ast
import copy
import pathlib
import unittest

from claims import DOUBLE, RIGHT, SINGLE
from helper import Prickly, at, changed_by, nested, odd_values, put, run_example, spots
from missbounds.checker import accepts
from missbounds.policies import is_device, is_policy
from missbounds.programs import is_program
from samples import LRU, ONE, wrong_devices, wrong_policies
from truths import is_claim, is_true

PACKAGE = pathlib.Path(__file__).resolve().parent.parent / "missbounds"


def numbers():
    return [0, 1, 2, 3, 4, 5, 12, 13, 64, 10 ** 39, -1]


class CheckerTest(unittest.TestCase):

    def test_right_claims(self):
        self.assertEqual(len(RIGHT), 17)
        for word, (claim, evidence) in RIGHT.items():
            self.assertEqual(claim[0], word)
            self.assertIs(accepts(claim, evidence), True, word)
            self.assertIs(accepts(claim=claim, evidence=evidence), True)
            self.assertIs(accepts(evidence=copy.deepcopy(evidence), claim=copy.deepcopy(claim)), True)
            self.assertTrue(is_claim(claim), word)
            self.assertTrue(is_true(claim), word)

    def test_evidence_of_other_claims(self):
        found = []
        for word, (claim, evidence) in RIGHT.items():
            for other, (other_claim, other_evidence) in RIGHT.items():
                if word != other and accepts(claim, other_evidence):
                    # Some evidence shows more than it was written for, but only what is true.
                    self.assertTrue(is_true(claim), (word, other))
                    found.append((word, other))
        # These are steps, or a path, for the one as for the other.
        self.assertEqual(found, [("outside", "differ"), ("outside", "so many"), ("so many", "outside")])

    def test_words(self):
        for word, (claim, evidence) in RIGHT.items():
            for wrong in ("", word + " ", " " + word, word.upper(), word + "\n", word[:-1], "known", word.replace(" ", "")):
                if wrong != word:
                    self.assertIs(accepts((wrong, *claim[1:]), evidence), False)
            for odd in odd_values() + [(word,), [word], word.encode()]:
                self.assertIs(accepts((odd, *claim[1:]), evidence), False)
            # Without the word, with the word behind, with the word twice.
            self.assertIs(accepts(claim[1:], evidence), False)
            self.assertIs(accepts(claim[::-1], evidence), False)
            self.assertIs(accepts((word, *claim), evidence), False)

    def test_elements_less_and_more(self):
        for word, (claim, evidence) in RIGHT.items():
            self.assertIs(accepts(list(claim), evidence), False)
            self.assertIs(accepts((claim,), evidence), False)
            for index in range(len(claim)):
                self.assertIs(accepts(claim[:index] + claim[index + 1:], evidence), False)
                for more in (None, 0, True, claim[index], ()):
                    self.assertIs(accepts(claim[:index] + (more,) + claim[index:], evidence), False)
            for more in (None, 0, evidence, ()):
                self.assertIs(accepts((*claim, more), evidence), False)
            for index in range(1, len(claim) - 1):
                exchanged = claim[:index] + (claim[index + 1], claim[index]) + claim[index + 2:]
                if exchanged != claim and accepts(exchanged, evidence):
                    self.assertTrue(is_true(exchanged))

    def test_any_claim_and_any_evidence(self):
        values = odd_values() + [0, 1, "within", "alike", ("alike",), ("within", 1), nested((), 99), Prickly(), LRU, DOUBLE]
        for one in values:
            for other in values:
                self.assertIs(accepts(one, other), False)
        for word, (claim, evidence) in RIGHT.items():
            for odd in values:
                self.assertIs(accepts(odd, evidence), False)
                self.assertIs(accepts(claim, odd), word == "answers" and odd is None)

    def test_claims_changed_at_any_place(self):
        odd = odd_values() + numbers()
        count = 0
        for word, (claim, evidence) in RIGHT.items():
            for changed in changed_by(claim, odd):
                told = accepts(changed, evidence)
                self.assertIn(told, (True, False))
                self.assertIs(told.__class__, bool)
                if told and changed != claim:
                    count += 1
                    self.assertTrue(is_claim(changed), changed)
                    self.assertTrue(is_true(changed), changed)
                if is_strange(changed, claim):
                    self.assertIs(told, False, changed)
        # A greater excess, a number of names where it was None, and the like.
        self.assertGreater(count, 20)

    def test_evidence_changed_at_any_place(self):
        odd = odd_values() + numbers()
        for word, (claim, evidence) in RIGHT.items():
            for changed in changed_by(evidence, odd):
                told = accepts(claim, changed)
                self.assertIs(told.__class__, bool)
                if is_strange(changed, evidence) and word != "answers":
                    self.assertIs(told, False, (claim, changed))

    def test_true_is_no_one_and_false_is_no_zero(self):
        for word, (claim, evidence) in RIGHT.items():
            for whole, told in ((claim, lambda other: accepts(other, evidence)), (evidence, lambda other: accepts(claim, other))):
                for path in spots(whole):
                    value = at(whole, path)
                    if isinstance(value, (bool, int)) and value in (0, 1):
                        other = int(value) if isinstance(value, bool) else bool(value)
                        self.assertIs(told(put(whole, path, other)), False, (word, path))

    def test_lists_are_no_tuples(self):
        for word, (claim, evidence) in RIGHT.items():
            for path in spots(claim):
                if isinstance(at(claim, path), tuple):
                    self.assertIs(accepts(put(claim, path, list(at(claim, path))), evidence), False, (word, path))
            for path in spots(evidence):
                if isinstance(at(evidence, path), tuple):
                    self.assertIs(accepts(claim, put(evidence, path, list(at(evidence, path)))), False, (word, path))

    def test_wrong_devices_and_policies(self):
        for word, (claim, evidence) in RIGHT.items():
            for index, value in enumerate(claim):
                if value in (SINGLE, DOUBLE):
                    for wrong in wrong_devices():
                        self.assertIs(accepts(put(claim, (index,), wrong), evidence), False)
                if is_policy(value):
                    for wrong in wrong_policies():
                        self.assertIs(accepts(put(claim, (index,), wrong), evidence), False)

    def test_wrong_programs(self):
        places = [("a", (0,))]
        wrong = [
            (), (("a", (1,)),), (("a", (-1,)),), (("a", (0, 0)),), (("a", (True,)),), (("a", [0]),), (("", ()),), (("A", ()),),
            (("abcdefg", ()),), ("a", ()), (("a",),), (("a", (), ()),), (("a", (1, 0)), ("b", ())), (("a", ()),) * 31,
            tuple([(letter, ()) for letter in "abcdefghi"]), [("a", ())], (["a", ()],), (("a", 0),), ((1, ()),), "a", None, {},
        ]
        for program in wrong:
            self.assertFalse(is_program(program))
            for claim, evidence in [RIGHT[word] for word in ("always", "sometimes", "at most", "so many", "no most")]:
                self.assertIs(accepts(put(claim, (2,), program), evidence), False)
        for program in (places * 30, [("a", (0,)), *[("a", ())] * 29], [("abcdef", (0,))]):
            self.assertTrue(is_program(tuple(program)))
            self.assertIs(accepts(("so many", SINGLE, tuple(program), 1), (0, 0, 0)), True)
        eight = tuple([(letter, (index + 1,) if index < 7 else ()) for index, letter in enumerate("abcdefgh")])
        self.assertIs(accepts(("so many", SINGLE, eight, 8), tuple(range(8))), True)

    def test_devices_of_all_modes(self):
        for device, last in ((("plain", ONE, LRU), 1), (("inclusive", ONE, LRU), 1), (("victim", LRU, LRU), 0)):
            self.assertTrue(is_device(device))
            self.assertIs(accepts(("answers", device, ("a", "a", "b"), (False, True, False)), None), True)
            # A name that came before the last one is in one of the levels.
            self.assertIs(accepts(("differ", device, SINGLE, None), (0, 1, last)), True)
            self.assertIs(accepts(("differ", device, SINGLE, None), (0, 1, 1 - last)), False)

    def test_the_same_again_and_nothing_modified(self):
        before = copy.deepcopy(RIGHT)
        for word, (claim, evidence) in RIGHT.items():
            self.assertEqual(accepts(claim, evidence), accepts(claim, evidence))
        self.assertEqual(RIGHT, before)

    def test_example(self):
        run_example(self, '''
            >>> from missbounds.checker import accepts
            >>> single = ("cache", (1, ((0, 0, (0,)),)))
            >>> begin, full = ((0, 0), (None, None)), ((0, 0), (0, 0))
            >>> first = [accepts(("alike", single, single, None), (begin, full)), accepts(("alike", single, single, None), (begin,))]
            >>> claim = ("within", single, single, None, (1, 1), (0, 1))
            >>> first + [accepts(claim, ((begin, (0, 1)), (full, (0, 1)))), accepts(claim, ((begin, (0, 1)),)), accepts(("reached",) + claim[1:], ((0,), (1,), ()))]
            [True, False, True, False, True]
        ''')


def is_strange(changed, whole):
    """Return whether in changed tuples there is a value of a kind that no claim and no evidence has."""
    for path in spots(changed):
        value = at(changed, path)
        if value is not None and not isinstance(value, (bool, int, str, tuple)):
            return True
        if isinstance(value, int) and value < 0:
            return True
    return False


class ImportsTest(unittest.TestCase):

    def imported(self, module):
        """Return the modules of the package that a module imports."""
        tree = ast.parse((PACKAGE / (module + ".py")).read_text())
        return {node.module.split(".")[1] for node in tree.body if isinstance(node, ast.ImportFrom)}

    def test_the_checker_imports_only_what_it_may(self):
        own = {"checker"}
        queue = ["checker"]
        for module in queue:
            new = self.imported(module) - own - {"limits"}
            own |= new
            queue += sorted(new)
        for path in PACKAGE.glob("*.py"):
            if path.stem not in own:
                self.assertEqual(self.imported(path.stem) & own, set(), path.stem)
        self.assertTrue(all(module.startswith("checker") for module in own), own)


if __name__ == "__main__":
    unittest.main()
