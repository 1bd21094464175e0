"""[10]: the error classes."""

import unittest

import onelate.errors as errors
from onelate.errors import LateError

FIELDS = {
    "Wrong": ["place"], "NoQuotient": [], "NoRule": ["cell"], "NoText": ["line"], "NoAge": ["cell"],
    "NoTurn": ["index"], "NotLate": ["index"], "Heavy": ["found"], "TooMany": ["most"], "NotEven": [],
    "NotTold": [], "NoName": ["name"], "Broken": ["duty"], "Nothing": [], "NoCommand": [],
}


class ErrorsTest(unittest.TestCase):
    def test_the_classes_are_those_of_the_interface(self):
        there = {name for name, thing in vars(errors).items() if isinstance(thing, type)}
        self.assertEqual(there, set(FIELDS) | {"LateError"})

    def test_late_error_is_a_value_error(self):
        self.assertEqual(LateError.__bases__, (ValueError,))

    def test_each_class_is_below_late_error_alone(self):
        classes = [getattr(errors, name) for name in FIELDS]
        for one in classes:
            self.assertTrue(issubclass(one, LateError))
            self.assertEqual([other for other in classes if other is not one and issubclass(one, other)], [])

    def test_fields_hold_the_very_objects(self):
        things = [None, True, 0, "line\n", [1, [2]], {"a": ()}, (1, (2, 3)), object(), LateError, errors.Wrong(0)]
        for name, fields in FIELDS.items():
            for thing in things:
                error = getattr(errors, name)(*[thing] * len(fields))
                for field in fields:
                    self.assertIs(getattr(error, field), thing, name)
                self.assertEqual(list(vars(error)), fields)

    def test_they_can_be_raised_and_caught_as_late_errors(self):
        for name, fields in FIELDS.items():
            with self.assertRaises(LateError):
                raise getattr(errors, name)(*[None] * len(fields))
            with self.assertRaises(ValueError):
                raise getattr(errors, name)(*[None] * len(fields))
