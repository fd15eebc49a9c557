"""The error classes: their base classes and their attributes."""

import unittest

from choosersrow import errors

BASES = {
    "InvalidText": "ChoosersError", "InvalidTerm": "ChoosersError", "InvalidAim": "InvalidTerm",
    "InvalidGame": "InvalidTerm", "InvalidQuery": "InvalidTerm", "InvalidContext": "ChoosersError",
    "OutOfRange": "ChoosersError", "SizeMismatch": "ChoosersError", "TooLarge": "ChoosersError",
    "NotGood": "ChoosersError", "InvalidChooser": "ChoosersError", "InvalidPlan": "ChoosersError",
    "NotMet": "ChoosersError", "NotOptimal": "ChoosersError", "NotDuel": "ChoosersError",
    "NotOrders": "ChoosersError", "EndlessGame": "ChoosersError", "InvalidName": "ChoosersError",
    "NoStep": "ChoosersError", "UnknownName": "ChoosersError", "NameTaken": "ChoosersError",
    "CircularUse": "ChoosersError", "EditFailed": "ChoosersError",
}
ATTRIBUTES = {
    "position": (7, ["InvalidText"]),
    "path": ((0, 3), ["InvalidTerm", "InvalidAim", "InvalidGame", "InvalidQuery"]),
    "index": (4, ["InvalidChooser", "InvalidPlan", "NotMet", "NotOptimal", "NotDuel", "NotOrders", "EditFailed"]),
    "way": ((1, 0), ["EndlessGame"]),
    "name": ("abc", ["UnknownName", "NameTaken", "CircularUse"]),
}


class TestErrors(unittest.TestCase):
    def test_bases(self):
        self.assertEqual(errors.ChoosersError.__bases__, (ValueError,))
        for name, base in BASES.items():
            self.assertEqual(getattr(errors, name).__bases__, (getattr(errors, base),), name)

    def test_attributes(self):
        for attribute, (value, names) in ATTRIBUTES.items():
            for name in names:
                error = getattr(errors, name)(value)
                self.assertEqual(vars(error), {attribute: value}, name)
                self.assertTrue(str(error), name)

    def test_errors_without_attributes(self):
        named = [name for _, names in ATTRIBUTES.values() for name in names]
        for name in BASES:
            if name not in named:
                self.assertEqual(vars(getattr(errors, name)("why")), {}, name)

    def test_nothing_else(self):
        found = [name for name, value in vars(errors).items() if isinstance(value, type)]
        self.assertEqual(sorted(found), sorted([*BASES, "ChoosersError"]))
