import inspect
import unittest

from fullbelts import errors
from samples import odd_things

FIELDS = {
    "BadProgram": ("part",), "NoWay": (), "NoPlace": (), "NoRoute": (), "NoName": ("name",), "Over": (),
    "NoNumber": (), "BadMachine": (), "NoHolding": (), "NoBelt": (), "NoCarries": (), "BadCode": ("part",),
    "NotFull": (), "NoWalk": (), "NoNames": (), "OtherSize": (), "TooLarge": ("most",), "NoSeating": (),
    "NotRight": (), "TooSmall": ("least",), "NoRing": (), "NotStrong": (), "NotStraight": (),
    "BadText": ("line",), "NoLine": (), "Faulty": ("place", "name"), "NoneLed": (), "BadNeed": (),
    "NothingDone": ()}


class Errors(unittest.TestCase):
    def test_there_are_29_of_them(self):
        self.assertEqual(len(FIELDS), 29)
        found = [name for name, thing in vars(errors).items() if inspect.isclass(thing)]
        self.assertEqual(set(found) & set(FIELDS), set(FIELDS))

    def test_bases(self):
        self.assertEqual(errors.BeltsError.__bases__, (ValueError,))
        for name in FIELDS:
            self.assertEqual(getattr(errors, name).__bases__, (errors.BeltsError,), name)

    def test_defined_in_this_file(self):
        for name in ["BeltsError", *FIELDS]:
            self.assertEqual(getattr(errors, name).__module__, "fullbelts.errors")
            self.assertEqual(getattr(errors, name).__name__, name)

    def test_they_keep_whatever_they_are_made_with(self):
        things = odd_things()
        for name, fields in FIELDS.items():
            for first, thing in enumerate(things):
                given = [things[(first + at) % len(things)] for at in range(len(fields))]
                error = getattr(errors, name)(*given)
                for field, value in zip(fields, given):
                    self.assertIs(getattr(error, field), value)
                if not fields:
                    break

    def test_fields_of_one_error_are_apart(self):
        error = errors.Faulty(3, "x")
        self.assertEqual((error.place, error.name), (3, "x"))

    def test_they_can_be_raised_and_caught(self):
        for name, fields in FIELDS.items():
            made = getattr(errors, name)(*fields)
            with self.assertRaises(ValueError) as caught:
                raise made
            self.assertIs(caught.exception, made)

    def test_no_error_is_caught_as_another_one(self):
        for name, fields in FIELDS.items():
            for other in FIELDS:
                made = getattr(errors, name)(*fields)
                self.assertEqual(isinstance(made, getattr(errors, other)), name == other)


if __name__ == "__main__":
    unittest.main()
