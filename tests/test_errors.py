"""The refusals: points 3 and 4, and the interface of errors.py."""

import unittest

from spareline import errors
from tests.helper import FIELDS, values_of


class Refusals(unittest.TestCase):
    def test_net_error_stands_under_value_error(self):
        self.assertEqual(errors.NetError.__bases__, (ValueError,))

    def test_each_refusal_stands_straight_under_net_error(self):
        for name in FIELDS:
            self.assertEqual(getattr(errors, name).__bases__, (errors.NetError,), name)

    def test_the_refusals_are_eleven_and_no_others(self):
        classes = [name for name, thing in vars(errors).items() if isinstance(thing, type)]
        self.assertEqual(sorted(classes), sorted(list(FIELDS) + ["NetError"]))
        self.assertEqual(len(FIELDS), 11)

    def test_values_are_read_by_their_names(self):
        for name, fields in FIELDS.items():
            values = tuple(["value", field] for field in fields)
            error = getattr(errors, name)(*values)
            for value, asked in zip(values_of(error), values):
                self.assertIs(value, asked, name)

    def test_none_is_made_with_a_value_missing(self):
        for name, fields in FIELDS.items():
            if fields:
                with self.assertRaises(TypeError):
                    getattr(errors, name)(*fields[1:])

    def test_each_is_taken_as_net_error_and_as_value_error(self):
        for name, fields in FIELDS.items():
            error = getattr(errors, name)(*fields)
            for kind in (errors.NetError, ValueError):
                with self.assertRaises(kind):
                    raise error


if __name__ == "__main__":
    unittest.main()
