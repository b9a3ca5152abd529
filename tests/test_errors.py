"""Point 8: the errors and their fields."""

import unittest

from openranges import errors
from tests.values import any_values

FIELDS = {
    "BadStretch": ("index",), "BadText": ("index",), "BadLine": ("row", "index"), "BadWord": ("word",),
    "SameFunction": ("function",), "BadSign": ("sign",), "BadFactor": ("factor",),
    "BadPieces": ("function", "index"), "OtherShape": (), "BadKind": (), "BadFunctions": ("count",),
    "Twice": ("word",), "TooMany": ("count",), "NoFunction": ("function",), "NoPlace": ("place",),
    "NoClause": ("index",), "NoBound": ("function", "place"), "Impossible": (), "BadName": ("name",),
    "Unknown": ("name",), "Known": ("name",), "Settled": ("function", "place"),
    "NotLet": ("function", "place"), "NoFact": (), "Unfair": (),
}
CLASSES = {name: getattr(errors, name) for name in FIELDS}


class Kinds(unittest.TestCase):
    def test_there_are_twenty_five_errors_and_their_base(self):
        found = [name for name, value in vars(errors).items() if isinstance(value, type)]
        self.assertEqual(sorted(found), sorted([*FIELDS, "RangesError"]))
        self.assertEqual(len(FIELDS), 25)

    def test_they_are_defined_in_their_file(self):
        for name in [*FIELDS, "RangesError"]:
            self.assertEqual(getattr(errors, name).__module__, "openranges.errors")

    def test_the_base_is_directly_below_value_error(self):
        self.assertEqual(errors.RangesError.__bases__, (ValueError,))

    def test_each_is_directly_below_the_base(self):
        for name, kind in CLASSES.items():
            self.assertEqual(kind.__bases__, (errors.RangesError,), name)

    def test_none_of_them_is_another_one(self):
        for name, kind in CLASSES.items():
            made = kind(*FIELDS[name])
            self.assertIsInstance(made, errors.RangesError)
            self.assertIsInstance(made, ValueError)
            self.assertEqual([other for other, that in CLASSES.items() if isinstance(made, that)], [name])

    def test_they_are_raised_and_caught_by_their_name(self):
        for name, kind in CLASSES.items():
            with self.assertRaises(kind):
                raise kind(*FIELDS[name])


class Fields(unittest.TestCase):
    def check(self, made, name, values):
        self.assertEqual(list(vars(made)), list(FIELDS[name]), name)
        for field, value in zip(FIELDS[name], values):
            self.assertIs(getattr(made, field), value, (name, field))

    def test_by_position_in_the_order_that_is_told(self):
        values = any_values()
        for name, kind in CLASSES.items():
            for at, value in enumerate(values):
                told = (value, values[at - 1])[:len(FIELDS[name])]
                self.check(kind(*told), name, told)

    def test_by_name_in_any_order(self):
        values = any_values()
        for name, kind in CLASSES.items():
            for at, value in enumerate(values):
                told = (value, values[at - 1])[:len(FIELDS[name])]
                pairs = list(zip(FIELDS[name], told))
                self.check(kind(**dict(pairs)), name, told)
                self.check(kind(**dict(pairs[::-1])), name, told)

    def test_the_first_by_position_and_the_second_by_name(self):
        for name in [name for name, fields in FIELDS.items() if len(fields) == 2]:
            first, second = object(), object()
            self.check(CLASSES[name](first, **{FIELDS[name][1]: second}), name, (first, second))

    def test_five_have_no_field(self):
        for name in ("OtherShape", "BadKind", "Impossible", "NoFact", "Unfair"):
            self.assertEqual(vars(CLASSES[name]()), {})

    def test_no_field_is_left_out_or_added(self):
        for name, fields in FIELDS.items():
            if fields:
                with self.assertRaises(TypeError):
                    CLASSES[name](*fields[1:])
                with self.assertRaises(TypeError):
                    CLASSES[name](*fields, None)

    def test_integers_of_any_length_are_taken(self):
        long = 10 ** 5000
        self.assertIs(errors.NoPlace(long).place, long)


if __name__ == "__main__":
    unittest.main()
