import pathlib
import unittest

from helper import run_example

README = pathlib.Path(__file__).resolve().parent.parent / "README.md"


class ReadmeTest(unittest.TestCase):

    def test_examples_print_what_is_written(self):
        run_example(self, README.read_text(encoding="utf-8").replace("```\n", "\n"))


if __name__ == "__main__":
    unittest.main()
