"""Points [4] and [15]: the errors."""

import unittest

from goneyet import errors
from samples import ODD

SIGNATURES = {
    "BadDeed": ("index",), "Barred": ("until",), "NoCommand": (), "NoDeed": (), "NoDial": ("dial",),
    "NoGround": ("index",), "NoIndex": ("index",), "NoKind": ("name",), "NoLot": ("rows",), "NoName": ("name",),
    "NoNews": (), "NoText": ("line",), "NotEver": ("name",), "NotHeld": ("index", "paper"), "NotMet": ("place",),
    "NotMorning": (), "NotTimed": (), "Nothing": (), "TooMany": ("most",), "Unlike": ("name",), "Untold": ("last",),
    "Wrong": ("place",),
}


class ErrorsTest(unittest.TestCase):
    def test_the_classes_are_those_of_the_interface(self):
        classes = {name for name in vars(errors) if isinstance(getattr(errors, name), type)}
        self.assertEqual(classes, set(SIGNATURES) | {"GoneError"})

    def test_each_is_a_direct_subclass(self):
        self.assertEqual(errors.GoneError.__bases__, (ValueError,))
        for name in SIGNATURES:
            self.assertEqual(getattr(errors, name).__bases__, (errors.GoneError,), name)

    def test_fields_are_the_objects_that_were_passed(self):
        for name, fields in SIGNATURES.items():
            for value in ODD:
                error = getattr(errors, name)(*[value for _ in fields])
                self.assertEqual(vars(error), {field: value for field in fields})
                for field in fields:
                    self.assertIs(getattr(error, field), value)

    def test_fields_are_not_copied(self):
        for name, fields in SIGNATURES.items():
            lists = [[k] for k in range(len(fields))]
            error = getattr(errors, name)(*lists)
            for k, field in enumerate(fields):
                lists[k].append("more")
                self.assertEqual(getattr(error, field), [k, "more"])

    def test_both_fields_of_one_error(self):
        paper = ["x"]
        error = errors.NotHeld(3, paper)
        self.assertEqual((error.index, error.paper), (3, ["x"]))
        self.assertIs(error.paper, paper)

    def test_two_errors_stand_by_themselves(self):
        for name, fields in SIGNATURES.items():
            one = getattr(errors, name)(*[1 for _ in fields])
            other = getattr(errors, name)(*[2 for _ in fields])
            for field in fields:
                self.assertEqual((getattr(one, field), getattr(other, field)), (1, 2))

    def test_too_many_or_few_arguments(self):
        for name, fields in SIGNATURES.items():
            if fields:
                for many in (len(fields) - 1, len(fields) + 1):
                    with self.assertRaises(TypeError):
                        getattr(errors, name)(*range(many))

    def test_they_are_raised_and_caught_as_each_other(self):
        for name, fields in SIGNATURES.items():
            for caught in (getattr(errors, name), errors.GoneError, ValueError):
                with self.assertRaises(caught):
                    raise getattr(errors, name)(*fields)
