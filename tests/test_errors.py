"""stickmarks/errors.py: the refusals and how they stand under each other."""

import unittest

from stickmarks import errors

NAMES = ["BadText", "NoPlace", "NoSeat", "NoHand", "NoDeed", "NoMark"]


class Errors(unittest.TestCase):
    def test_a_stick_error_is_a_value_error(self):
        self.assertEqual(errors.StickError.__bases__, (ValueError,))

    def test_each_stands_straight_under_stick_error(self):
        for name in NAMES:
            self.assertEqual(getattr(errors, name).__bases__, (errors.StickError,), name)

    def test_each_is_defined_there(self):
        for name in ["StickError"] + NAMES:
            self.assertEqual(getattr(errors, name).__module__, "stickmarks.errors")

    def test_each_is_caught_as_a_stick_error_and_as_no_other_one(self):
        for name in NAMES:
            for other in NAMES:
                self.assertEqual(issubclass(getattr(errors, name), getattr(errors, other)), name == other)
