"""[11] the errors."""

import inspect
import unittest

import helper
from sparehop import errors

FIELDS = {
    "Wrong": ["place"], "NoText": ["line", "column"], "NoFleet": ["fault"], "NoLease": ["lease"],
    "NoTable": ["fault"], "NoEdit": ["index"], "NoWay": ["lease"], "NoMerge": ["quarrel"], "NoGrant": [],
    "NoTime": ["stretch"], "NoNumber": ["many"], "TooMany": ["most"], "NoCommand": ["line"], "Nothing": [],
}


class Errors(unittest.TestCase):

    def test_these_classes_and_no_others(self):
        classes = {name for name, thing in vars(errors).items() if inspect.isclass(thing)}
        self.assertEqual(classes, {"FleetError", *FIELDS})

    def test_each_is_a_fleet_error_and_no_other_one(self):
        self.assertEqual(errors.FleetError.__bases__, (ValueError,))
        for name in FIELDS:
            self.assertEqual(getattr(errors, name).__bases__, (errors.FleetError,))
            for other in FIELDS:
                self.assertEqual(issubclass(getattr(errors, name), getattr(errors, other)), name == other)

    def test_fields_are_the_very_objects(self):
        for name, fields in FIELDS.items():
            for thing in helper.every_kind():
                given = [thing] * len(fields)
                error = getattr(errors, name)(*given)
                self.assertEqual(list(vars(error)), fields)
                for field in fields:
                    self.assertIs(getattr(error, field), thing)

    def test_fields_have_the_order_of_the_arguments(self):
        error = errors.NoText([1], [2])
        self.assertEqual([error.line, error.column], [[1], [2]])

    def test_a_list_is_kept_and_not_copied(self):
        fault = ["form"]
        error = errors.NoFleet(fault)
        fault.append(0)
        self.assertEqual(error.fault, ["form", 0])

    def test_the_arguments_have_the_names_of_the_interface(self):
        for name, fields in FIELDS.items():
            if fields:
                self.assertEqual(list(inspect.signature(getattr(errors, name)).parameters), fields)

    def test_they_can_be_caught_by_what_they_are(self):
        for name, fields in FIELDS.items():
            for caught in (getattr(errors, name), errors.FleetError, ValueError):
                with self.assertRaises(caught):
                    raise getattr(errors, name)(*fields)


if __name__ == "__main__":
    unittest.main()
