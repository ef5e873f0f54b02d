"""The rules of the language that can be seen file by file: sizes, characters, words and imports."""

import ast
import builtins
import io
import pathlib
import re
import tokenize
import unittest
import warnings

PACKAGE = pathlib.Path(__file__).resolve().parent.parent / "missbounds"

WORDS = (
    "type typing typing_extensions enum Enum IntEnum StrEnum Flag IntFlag Generic Protocol ABC ABCMeta namedtuple "
    "NamedTuple TypedDict TYPE_CHECKING abstractmethod"
).split()
PARTS = ("dataclass", "overload", "contextmanager")
NAMES = "register mro elements open input law version_info with_traceback add_note".split()


def files():
    """Return the files of the package with their texts."""
    return [(path, path.read_text(encoding="utf-8")) for path in sorted(PACKAGE.rglob("*.py"))]


class LanguageTest(unittest.TestCase):

    def test_the_folder_holds_plain_files_only(self):
        for path in PACKAGE.rglob("*"):
            if "__pycache__" not in path.parts:
                self.assertRegex(path.name, r"\A(__init__|[a-z][a-z0-9_]*)\.py\Z")
                self.assertNotRegex(path.name, r"\A(test|law_)")
        self.assertLessEqual(len(files()), 100)
        self.assertTrue((PACKAGE / "__init__.py").is_file())

    def test_sizes_and_characters(self):
        for path, text in files():
            rows = text.split("\n")
            self.assertLessEqual(len(rows), 399, path)
            for number, row in enumerate(rows, start=1):
                self.assertRegex(row, r"\A[ -~]{0,120}\Z", f"{path}:{number}")
            for node in ast.walk(ast.parse(text)):
                if isinstance(node, (ast.FunctionDef, ast.Lambda)):
                    self.assertLess(node.end_lineno - node.lineno, 40, f"{path}:{node.lineno}")

    def test_words_that_are_not_used(self):
        for path, text in files():
            self.assertEqual([word for word in re.findall(r"\w+", text) if word in WORDS], [], path)
            self.assertEqual([part for part in PARTS if part in text], [], path)
            self.assertEqual([name for name in names_in(text) if name in NAMES], [], path)

    def test_imports_name_the_file_that_defines_the_name(self):
        for path, text in files():
            for node in ast.walk(ast.parse(text)):
                self.assertNotIsInstance(node, ast.Import, path)
                if isinstance(node, ast.ImportFrom):
                    home = PACKAGE.parent.joinpath(*node.module.split(".")).with_suffix(".py")
                    self.assertEqual(node.level, 0, path)
                    for alias in node.names:
                        self.assertIn(alias.name, defined(home), path)

    def test_no_name_means_two_things(self):
        for path, text in files():
            tree = ast.parse(text)
            taken = [alias.name for node in tree.body if isinstance(node, ast.ImportFrom) for alias in node.names]
            taken += [node.name for node in tree.body if isinstance(node, ast.ClassDef)]
            for name in bound_in(tree):
                self.assertNotIn(name, taken, path)
                self.assertNotIn(name, dir(builtins), path)
                self.assertFalse(name.startswith("_"), path)
            self.assertEqual(len(taken), len(set(taken)), path)

    def test_statements_and_signs_that_are_not_used(self):
        barred = (ast.Global, ast.AsyncFunctionDef, ast.Await, ast.Div, ast.MatMult, ast.AnnAssign)
        for path, text in files():
            for node in ast.walk(ast.parse(text)):
                self.assertNotIsInstance(node, barred, f"{path}:{getattr(node, 'lineno', 0)}")
                if isinstance(node, ast.Constant):
                    self.assertNotIsInstance(node.value, (float, complex), path)
                    self.assertNotIn("%", node.value if isinstance(node.value, str) else "", path)
                if isinstance(node, ast.Call) and isinstance(node.func, ast.Name):
                    if node.func.id in ("any", "all", "min", "max", "sum", "sorted"):
                        generators = [part for part in node.args if isinstance(part, ast.GeneratorExp)]
                        self.assertEqual(generators, [], f"{path}:{node.lineno}")

    def test_methods_attributes_and_properties_have_names_of_their_own(self):
        methods, properties, attributes = set(), set(), set()
        for path, text in files():
            for node in ast.walk(ast.parse(text)):
                if isinstance(node, ast.ClassDef):
                    for part in [part for part in node.body if isinstance(part, ast.FunctionDef)]:
                        is_property = [ast.unparse(name) for name in part.decorator_list] == ["property"]
                        (properties if is_property else methods).add(part.name)
                if isinstance(node, ast.Attribute) and isinstance(node.ctx, ast.Store):
                    attributes.add(node.attr)
        self.assertEqual(methods & attributes, set())
        self.assertEqual(properties & (methods | attributes), set())

    def test_handlers_and_ends_of_tries(self):
        for path, text in files():
            for node in ast.walk(ast.parse(text)):
                if isinstance(node, ast.Try):
                    for handler in node.handlers:
                        self.assertNotIn(ast.unparse(handler.type), ("Exception", "TypeError", "AttributeError"), path)
                    for part in node.finalbody:
                        self.assertIsInstance(part, (ast.Assign, ast.If, ast.Pass), path)

    def test_python_gives_no_warning(self):
        with warnings.catch_warnings():
            warnings.simplefilter("error")
            for path, text in files():
                compile(text, str(path), "exec")


def names_in(text):
    """Return the names in a text of a program, wherever they stand outside of strings and comments."""
    tokens = tokenize.generate_tokens(io.StringIO(text).readline)
    return [token.string for token in tokens if token.type == tokenize.NAME]


def bound_in(tree):
    """Return the names that functions bind: parameters, targets, nested functions and caught errors."""
    names = []
    for outer in ast.walk(tree):
        if isinstance(outer, (ast.FunctionDef, ast.Lambda)):
            for node in ast.walk(outer):
                if isinstance(node, ast.arg):
                    names.append(node.arg)
                if isinstance(node, ast.Name) and isinstance(node.ctx, ast.Store):
                    names.append(node.id)
                if isinstance(node, (ast.FunctionDef, ast.ExceptHandler)) and node is not outer and node.name:
                    names.append(node.name)
    return names


def defined(path):
    """Return the names that a file defines itself."""
    names = []
    for node in ast.parse(path.read_text(encoding="utf-8")).body:
        if isinstance(node, (ast.FunctionDef, ast.ClassDef)):
            names.append(node.name)
        if isinstance(node, ast.Assign):
            names.append(node.targets[0].id)
    return names


if __name__ == "__main__":
    unittest.main()
