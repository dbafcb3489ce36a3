"""The errors of [2]'s interface: what they are, and what they keep."""

import unittest

from dugdays import errors
from helpers import ERRORS, any_values, nested


class ErrorsTest(unittest.TestCase):
    def test_dig_error_is_a_value_error(self):
        self.assertTrue(issubclass(errors.DigError, ValueError))

    def test_each_other_error_is_a_direct_subclass(self):
        for name in ERRORS:
            self.assertEqual(getattr(errors, name).__bases__, (errors.DigError,), name)

    def test_each_keeps_the_very_value_by_place_and_by_name(self):
        for name, attribute in ERRORS.items():
            made = getattr(errors, name)
            for value in any_values() + [nested(2000), object(), errors.DigError]:
                self.assertIs(getattr(made(value), attribute), value)
                self.assertIs(getattr(made(**{attribute: value}), attribute), value)

    def test_a_value_that_changes_stays_the_same_object(self):
        for name, attribute in ERRORS.items():
            value = ["hat"]
            error = getattr(errors, name)(value)
            value.append("coat")
            self.assertEqual(getattr(error, attribute), ["hat", "coat"])

    def test_each_can_be_raised_and_caught(self):
        for name, attribute in ERRORS.items():
            made = getattr(errors, name)
            with self.assertRaises(made) as caught:
                raise made(7)
            self.assertEqual(getattr(caught.exception, attribute), 7)


if __name__ == "__main__":
    unittest.main()
