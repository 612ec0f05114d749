"""The section "Errors", and 2.5 as far as it is about the error classes."""

import inspect
import unittest

from coupledyard import errors

YARD_ERRORS = {
    "InvalidYard": ("part", "index"),
    "InvalidArrangement": ("part", "index"),
    "InvalidWagon": ("wagon",),
    "InvalidStep": ("step",),
    "InvalidSchedule": ("index",),
    "InvalidRounds": ("index",),
    "InvalidPins": ("index",),
    "InvalidDrag": ("index",),
    "InvalidPlace": ("place",),
    "TooLarge": ("limit",),
    "InvalidTargets": ("index",),
    "InvalidWeights": ("index",),
    "InvalidForces": ("index",),
    "InvalidDurations": ("index",),
    "InvalidNumber": ("number",),
    "InvalidCount": ("count",),
    "InvalidText": ("line",),
}
STATE_ERRORS = {
    "Blocked": ("index",),
    "Conflicting": ("conflict",),
    "OutOfReach": ("wagon",),
    "NotConnected": ("wagons",),
    "NotHeld": ("part",),
    "NothingToUndo": ("count",),
}
ALL_ERRORS = {**YARD_ERRORS, **STATE_ERRORS}
BASES = {"YardError": ValueError, "YardStateError": RuntimeError}


class ErrorClassesTest(unittest.TestCase):
    def test_classes_of_the_file(self):
        found = {
            name for name, value in vars(errors).items()
            if inspect.isclass(value) and value.__module__ == "coupledyard.errors"
        }
        self.assertEqual(found, set(ALL_ERRORS) | set(BASES))

    def test_bases(self):
        for name, builtin in BASES.items():
            with self.subTest(name):
                self.assertEqual(getattr(errors, name).__bases__, (builtin,))

    def test_each_class_is_a_direct_subclass_of_its_base(self):
        for names, base in ((YARD_ERRORS, errors.YardError), (STATE_ERRORS, errors.YardStateError)):
            for name in names:
                with self.subTest(name):
                    self.assertEqual(getattr(errors, name).__bases__, (base,))

    def test_no_other_class_has_subclasses(self):
        for name in ALL_ERRORS:
            with self.subTest(name):
                self.assertEqual(getattr(errors, name).__subclasses__(), [])

    def test_builtin_classes(self):
        for name in YARD_ERRORS:
            error = getattr(errors, name)(*ALL_ERRORS[name])
            self.assertIsInstance(error, ValueError)
            self.assertNotIsInstance(error, RuntimeError)
        for name in STATE_ERRORS:
            error = getattr(errors, name)(*ALL_ERRORS[name])
            self.assertIsInstance(error, RuntimeError)
            self.assertNotIsInstance(error, ValueError)

    def test_bases_are_caught_with_all_their_classes(self):
        with self.assertRaises(errors.YardError):
            raise errors.InvalidText(0)
        with self.assertRaises(errors.YardStateError):
            raise errors.NothingToUndo(2)


class FieldsTest(unittest.TestCase):
    def test_fields_hold_the_values_that_were_passed(self):
        for name, fields in ALL_ERRORS.items():
            for value in (None, True, 3, "wall", [1], {"a": [2]}, object()):
                with self.subTest(name, value=value):
                    values = [value] + [[value] for _ in fields[1:]]
                    error = getattr(errors, name)(*values)
                    self.assertEqual(sorted(vars(error)), sorted(fields))
                    for field, passed in zip(fields, values):
                        self.assertIs(getattr(error, field), passed)

    def test_parameters_are_the_fields_in_order(self):
        for name, fields in ALL_ERRORS.items():
            with self.subTest(name):
                parameters = inspect.signature(getattr(errors, name)).parameters
                self.assertEqual(tuple(parameters), fields)

    def test_one_argument_for_each_field(self):
        for name, fields in ALL_ERRORS.items():
            with self.subTest(name):
                with self.assertRaises(TypeError):
                    getattr(errors, name)(*fields[1:])
                with self.assertRaises(TypeError):
                    getattr(errors, name)(*fields, None)

    def test_each_error_can_be_shown(self):
        for name, fields in ALL_ERRORS.items():
            with self.subTest(name):
                self.assertIsInstance(str(getattr(errors, name)(*fields)), str)


if __name__ == "__main__":
    unittest.main()
