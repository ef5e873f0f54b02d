import copy
import unittest

from helper import Prickly, nested, odd_values
from missbounds import errors

BASES = {"InputError": ValueError, "StateError": LookupError, "SizeError": ArithmeticError}

# The classes of each base class, with their attributes.
LISTED = {
    "InputError": {
        "InvalidLines": ("value",),
        "InvalidPolicy": ("value",),
        "InvalidDevice": ("value",),
        "InvalidDevices": ("index",),
        "InvalidName": ("value",),
        "InvalidHistory": ("index",),
        "InvalidSteps": ("index",),
        "InvalidSituation": ("value",),
        "InvalidStep": ("value",),
        "InvalidRatio": ("value",),
        "InvalidExcess": ("value",),
        "InvalidCount": ("value",),
        "InvalidTimes": ("value",),
        "InvalidProgram": ("value",),
        "InvalidPlace": ("value",),
        "InvalidLog": ("index",),
        "InvalidText": ("line",),
        "InvalidEdit": ("index",),
        "InvalidCommand": ("command",),
        "InvalidFunction": ("value",),
    },
    "StateError": {
        "UnknownName": ("name",),
        "NameTaken": ("name",),
        "Limited": ("name", "other"),
        "BrokenLimit": ("name", "other"),
        "UnknownLimit": ("name", "other"),
        "NothingToUndo": (),
        "Busy": (),
    },
    "SizeError": {
        "TooManySituations": ("limit",),
        "TooManyStates": ("limit",),
        "TooManyRequests": ("limit",),
        "TooManyDevices": ("limit",),
        "TooManyEdits": ("limit",),
    },
}

KINDS = [(name, base, attributes) for base, names in LISTED.items() for name, attributes in names.items()]


def values():
    """Return values of several kinds, those of callers and odd ones."""
    return odd_values() + [
        0, 1, 7, 10 ** 39, "a", "a b\nc", (0, 1), (1, ((0, 0, (0,)),)), ["a", ["b"]], {"a": {"b": [1]}},
        nested([], 99), ValueError("x"), errors.Busy(),
    ]


class ErrorsTest(unittest.TestCase):

    def check_attributes(self, error, attributes, given):
        self.assertEqual(sorted(vars(error)), sorted(attributes))
        for attribute, value in zip(attributes, given):
            self.assertIs(getattr(error, attribute), value)

    def test_just_these_classes_are_there(self):
        found = [name for name, value in vars(errors).items() if isinstance(value, type)]
        self.assertEqual(sorted(found), sorted([*BASES, *(name for name, _, _ in KINDS)]))
        self.assertEqual(len(KINDS), 32)
        for name in found:
            self.assertEqual(getattr(errors, name).__module__, "missbounds.errors")

    def test_base_classes_have_bases_of_python(self):
        for name, base in BASES.items():
            self.assertEqual(getattr(errors, name).__bases__, (base,))

    def test_attributes_given_by_position(self):
        for name, _, attributes in KINDS:
            for value in values():
                given = (value, [value])[:len(attributes)]
                with self.subTest(name=name):
                    self.check_attributes(getattr(errors, name)(*given), attributes, given)

    def test_attributes_given_by_name(self):
        for name, _, attributes in KINDS:
            for value in values():
                given = (value, [value])[:len(attributes)]
                with self.subTest(name=name):
                    error = getattr(errors, name)(**dict(zip(attributes, given)))
                    self.check_attributes(error, attributes, given)

    def test_two_attributes_by_name_in_any_order_and_mixed(self):
        for name, _, attributes in KINDS:
            if len(attributes) == 2:
                with self.subTest(name=name):
                    kind = getattr(errors, name)
                    self.check_attributes(kind(other="b", name="a"), attributes, ("a", "b"))
                    self.check_attributes(kind("a", other=None), attributes, ("a", None))

    def test_values_are_not_modified(self):
        for name, _, attributes in KINDS:
            inner = {"a": [1, (2, [3])], "b": {"c": None}}
            before = copy.deepcopy(inner)
            error = getattr(errors, name)(*([inner] * len(attributes)))
            self.check_attributes(error, attributes, [inner] * len(attributes))
            self.assertEqual(inner, before)

    def test_two_errors_of_one_class_keep_their_own_values(self):
        for name, _, attributes in KINDS:
            kind = getattr(errors, name)
            one, other = kind(*("ab"[:len(attributes)])), kind(*("cd"[:len(attributes)]))
            self.check_attributes(other, attributes, "cd")
            self.check_attributes(one, attributes, "ab")

    def test_an_error_is_of_its_base_class_and_no_other(self):
        for name, base, attributes in KINDS:
            error = getattr(errors, name)(*attributes)
            kinds = [getattr(errors, other) for other in [*BASES, *(kind[0] for kind in KINDS)]]
            with self.subTest(name=name):
                found = [kind.__name__ for kind in kinds if isinstance(error, kind)]
                self.assertEqual(found, [base, name])
                found = [kind for kind in BASES.values() if isinstance(error, kind)]
                self.assertEqual(found, [BASES[base]])

    def test_an_error_is_caught_by_its_class_and_by_both_bases(self):
        for name, base, attributes in KINDS:
            kind = getattr(errors, name)
            for caught in (kind, getattr(errors, base), BASES[base]):
                with self.subTest(name=name, caught=caught.__name__):
                    given = [Prickly() for _ in attributes]
                    with self.assertRaises(caught) as context:
                        raise kind(*given)
                    self.assertIs(type(context.exception), kind)
                    self.check_attributes(context.exception, attributes, given)


if __name__ == "__main__":
    unittest.main()
