"""[3]: the classes of all errors and their fields."""

import unittest

from leastgates import errors

FIELDS = {
    "BadNumber": ("name",), "BadPlace": ("name",), "BadTie": ("name",),
    "BadLot": ("at",), "BadTies": ("at",), "BadNet": ("at",), "BadWorld": ("at",), "BadStretch": ("at",),
    "BadRow": ("at",), "BadTable": ("at",), "BadTree": ("at",),
    "BadText": ("line",), "OtherSize": ("size",), "OtherKind": (), "NotTwoway": (),
    "EmptyLot": ("name",), "NotASide": (), "Meeting": ("place",), "NotInside": ("place",), "SamePlace": ("place",),
    "TooMany": ("size",), "NoWorld": (), "NotInFamily": ("at",), "NotHeld": ("lot",), "NotServing": ("lot",),
    "NotLeast": ("lot",), "NotAFilling": ("at",), "NotACutTree": ("edge",),
    "NotSettled": ("one", "other"), "NotOneLot": ("one", "other"), "NotFull": ("one", "other"),
    "Crossing": ("one", "other"), "NotPrivate": ("at",), "NotARing": (), "HoldsARing": (),
    "IsLost": ("tie",), "NotLost": ("tie",), "FixedWanted": (), "NothingBack": (), "Closed": (),
}
VALUES = (17, (0, 2))


class Errors(unittest.TestCase):
    def test_just_these_classes(self):
        found = {name for name, value in vars(errors).items() if isinstance(value, type)}
        self.assertEqual(found, set(FIELDS) | {"GatesError"})

    def test_each_stands_directly_below_the_base(self):
        self.assertEqual(errors.GatesError.__bases__, (ValueError,))
        for name in FIELDS:
            with self.subTest(name=name):
                self.assertEqual(getattr(errors, name).__bases__, (errors.GatesError,))

    def test_fields_by_position(self):
        for name, fields in FIELDS.items():
            with self.subTest(name=name):
                values = VALUES[:len(fields)]
                error = getattr(errors, name)(*values)
                self.assertEqual(vars(error), dict(zip(fields, values)))

    def test_they_are_caught_by_name_and_by_the_base(self):
        for name, fields in FIELDS.items():
            with self.subTest(name=name):
                kind = getattr(errors, name)
                for base in (kind, errors.GatesError, ValueError):
                    with self.assertRaises(base):
                        raise kind(*VALUES[:len(fields)])

    def test_none_is_a_base_of_another_one(self):
        for name in FIELDS:
            for other in FIELDS:
                if name != other:
                    self.assertFalse(issubclass(getattr(errors, name), getattr(errors, other)))


if __name__ == "__main__":
    unittest.main()
