"""[11] The error classes."""

import unittest

from wherebeen import errors

SIGNATURES = {
    "FallsApart": ["spot"], "HasRing": ["way"], "Joined": ["index"], "NoCommand": [], "NoCopy": ["name"],
    "NoField": ["name"], "NoLot": ["lot"], "NoPast": ["lot"], "NoPlace": ["place"], "NoRoad": ["one", "other"],
    "NoText": ["line"], "NoValue": ["value"], "NotAnywhere": ["way", "worth"], "NotFinite": ["spot"],
    "NotKept": ["index", "fault"], "Nothing": [], "Parted": ["worth", "way", "other"], "Taken": ["name"],
    "TooMany": ["most"], "Unlike": [], "Wrong": ["place"],
}


class Errors(unittest.TestCase):
    def test_base(self):
        self.assertEqual(errors.WayError.__bases__, (ValueError,))

    def test_all_are_direct_subclasses(self):
        for name in SIGNATURES:
            self.assertEqual(getattr(errors, name).__bases__, (errors.WayError,), name)

    def test_no_other_ones(self):
        found = {name for name, thing in vars(errors).items() if isinstance(thing, type)}
        self.assertEqual(found, set(SIGNATURES) | {"WayError"})

    def test_arguments_are_kept_as_they_are(self):
        for name, fields in SIGNATURES.items():
            given = [[name, field, {}] for field in fields]
            error = getattr(errors, name)(*given)
            for field, thing in zip(fields, given):
                self.assertIs(getattr(error, field), thing, (name, field))

    def test_any_values_and_raised(self):
        for thing in (None, True, [[]], {(): 1}, "x\n", errors.Nothing(), 10 ** 39):
            with self.assertRaises(errors.WayError) as caught:
                raise errors.Wrong(thing)
            self.assertIs(caught.exception.place, thing)


if __name__ == "__main__":
    unittest.main()
