import unittest

from missbounds import limits

VALUES = {
    "MOST_LINES": 4,
    "MOST_STATES": 64,
    "MOST_REQUESTS": 2000,
    "MOST_SITUATIONS": 600,
    "MOST_PLACES": 30,
    "MOST_NAMES": 12,
    "MOST_TIMES": 1000000000000000000000000000000,
    "MOST_KEPT": 200,
    "MOST_MENDED": 8,
    "MOST_DEVICES": 20,
    "MOST_EDITS": 200,
}


class LimitsTest(unittest.TestCase):

    def test_each_constant_has_its_value(self):
        for name, value in VALUES.items():
            with self.subTest(name=name):
                self.assertEqual(getattr(limits, name), value)
                self.assertIs(type(getattr(limits, name)), int)

    def test_there_is_no_other_constant(self):
        found = [name for name in vars(limits) if not name.startswith("_")]
        self.assertEqual(sorted(found), sorted(VALUES))


if __name__ == "__main__":
    unittest.main()
