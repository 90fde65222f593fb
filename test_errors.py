"""The refusals: promise 1 and the interface."""

import unittest

from granary import errors

NAMES = ("BadText", "BadName", "BadRow", "TooGreat", "Twice", "BadPlan", "Within", "BadNumber", "Gone")
PLAIN = ("BadRow", "TooGreat", "Twice", "BadPlan", "Within", "BadNumber", "Gone")


class Errors(unittest.TestCase):
    def test_all_stand_straight_under_store_error(self):
        self.assertEqual(errors.StoreError.__bases__, (ValueError,))
        for name in NAMES:
            self.assertEqual(getattr(errors, name).__bases__, (errors.StoreError,), name)
            self.assertEqual(getattr(errors, name).__module__, "granary.errors")

    def test_values_are_handed_in_by_name(self):
        self.assertEqual(errors.BadText(place=3).place, 3)
        self.assertEqual(errors.BadText(place=0).place, 0)
        self.assertEqual(errors.BadName(word="a").word, "a")

    def test_those_without_a_value(self):
        for name in PLAIN:
            error = getattr(errors, name)()
            self.assertIsInstance(error, errors.StoreError)
            self.assertEqual(vars(error), {})

    def test_none_is_another(self):
        made = [errors.BadText(place=0), errors.BadName(word="a")] + [getattr(errors, name)() for name in PLAIN]
        for name in NAMES:
            kin = [error for error in made if isinstance(error, getattr(errors, name))]
            self.assertEqual([error.__class__.__name__ for error in kin], [name])


if __name__ == "__main__":
    unittest.main()
