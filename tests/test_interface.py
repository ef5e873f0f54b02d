"""The names, parameters and places of the interface, module by module."""

import ast
import importlib
import inspect
import pathlib
import unittest

PACKAGE = pathlib.Path(__file__).resolve().parent.parent / "missbounds"

# Each function as the document writes it.
FUNCTIONS = {
    "policies": ["is_policy(value)", "is_device(value)", "count_lines(device)"],
    "catalog": [
        "lru(lines)", "mru(lines)", "fifo(lines)", "lifo(lines)", "clock(lines)", "bits(lines)", "plru(lines)", "named(title, lines)"],
    "policytexts": ["write_device(device)", "write_program(program)", "read_device(text)", "read_program(text)"],
    "traces": [
        "answers(device, names)", "count_misses(device, names)", "far_misses(device, ahead, circle, times)", "long_run(device, circle)"],
    "situations": [
        "situation_of(one, other, names)", "after(one, other, situation, step)", "steps_of(one, other, names)",
        "names_of(one, other, steps)", "each_situation(one, other, *, names=None)"],
    "plains": ["plain(policy)", "are_alike(one, other, *, names=None)", "difference(one, other, *, names=None)"],
    "bounds": [
        "bound(one, other, *, names=None)", "least_excess(one, other, ratio, *, names=None)",
        "is_never_worse(one, other, *, names=None)", "first_outside(one, other, *, names=None)"],
    "forgetting": ["forgets(policy)", "longest_memory(policy)"],
    "programs": [
        "is_program(value)", "verdicts(device, program)", "most_misses(device, program)", "worst_rate(device, program)",
        "each_path(program, length)"],
    "optimum": [
        "is_keeping(names, lines, value)", "least_misses(names, lines)", "best_keeping(names, lines)", "best_weights(names, lines)"],
    "logs": ["agrees(device, log)", "possible(devices, log)", "telling(devices, log)"],
    "changes": ["each_change(policy)", "mended(policy, other, *, names=None)"],
    "checker": ["accepts(claim, evidence)"],
    "evidence": [
        "within_evidence(one, other, *, names=None)", "reached_evidence(one, other, *, names=None)",
        "alike_evidence(one, other, *, names=None)", "inside_evidence(one, other, *, names=None)", "forgets_evidence(policy)",
        "remembers_evidence(policy)", "verdict_evidence(device, program, place, answer)", "misses_evidence(device, program)",
        "path_evidence(device, program)", "least_evidence(names, lines)"],
}
# Each class with the methods and properties in its own body.
CLASSES = {
    ("caches", "Cache"): (
        ["__init__(self, device)", "named(title, lines)", "request(self, name)", "request_all(self, *names)", "reset(self)", "twin(self)",
         "__contains__(self, value)", "__len__(self)", "__eq__(self, other)", "__repr__(self)"],
        ["device", "states", "levels", "held", "hits", "misses"]),
    ("caches", "LoggedCache"): (
        ["__init__(self, device)", "named(title, lines)", "request(self, name)", "request_all(self, *names)", "reset(self)", "twin(self)"],
        ["log"]),
    ("caches", "ValueCache"): (
        ["__init__(self, device, load, store)", "fetch(self, name)", "put(self, name, value)", "request(self, name)",
         "request_all(self, *names)", "flush(self)", "value_of(self, name)", "reset(self)", "twin(self)", "__eq__(self, other)"],
        ["changed"]),
    ("rack", "Rack"): (
        ["__init__(self)", "install(self, name, device)", "exchange(self, name, device)", "drop(self, name)",
         "bind(self, name, other, ratio, excess)", "unbind(self, name, other)", "do_all(self, *edits, watch=None)",
         "undo(self, *, times=1)", "trial(self, work)", "__contains__(self, value)", "__len__(self)", "__eq__(self, other)",
         "__repr__(self)", "__getitem__(self, at)"],
        ["names", "limits", "edits", "busy"]),
    ("console", "Console"): (["__init__(self)", "say(self, command)"], ["rack"]),
}


def module(name):
    return importlib.import_module("missbounds." + name)


def defined_in(name):
    """Return the functions and classes that a file defines at its top."""
    tree = ast.parse((PACKAGE / (name + ".py")).read_text())
    return [node.name for node in tree.body if isinstance(node, (ast.FunctionDef, ast.ClassDef))]


class InterfaceTest(unittest.TestCase):

    def test_functions(self):
        for name, written in FUNCTIONS.items():
            for text in written:
                word = text.partition("(")[0]
                self.assertIn(word, defined_in(name))
                self.assertEqual(word + str(inspect.signature(getattr(module(name), word))), text)

    def test_classes(self):
        for (name, word), (methods, properties) in CLASSES.items():
            self.assertIn(word, defined_in(name))
            body = vars(getattr(module(name), word))
            for text in methods:
                method = text.partition("(")[0]
                self.assertIn(method, body)
                self.assertEqual(method + str(inspect.signature(getattr(getattr(module(name), word), method))), text)
            for each in properties:
                self.assertIsInstance(body[each], property)
                self.assertIsNone(body[each].fset)

    def test_functions_that_yield(self):
        for name, word in (("situations", "each_situation"), ("programs", "each_path"), ("changes", "each_change")):
            self.assertTrue(inspect.isgeneratorfunction(getattr(module(name), word)))


if __name__ == "__main__":
    unittest.main()
