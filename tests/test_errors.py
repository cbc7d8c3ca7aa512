"""Promises 0.3, 0.4: the error classes."""

import unittest

from growalong import errors
from growalong.errors import GrowError
from tests.odd import nested, odd_things

FIELDS = {
    "BadWeb": ("part",), "BadRecord": ("part", "at"), "BadHall": ("part",), "BadProgram": ("part", "at"),
    "BadStep": ("index",), "BadChoice": ("number",), "BadText": ("line",), "NoName": ("name",),
    "TooMany": ("most",), "NoNumber": (), "NoPairs": (), "NoOrder": (), "NoWire": (), "NoMachine": (),
    "NoPut": (), "NoWriters": (), "OtherMachines": (), "NotMade": (), "NoDays": (), "NoWeb": (), "NotWhole": (),
    "NoSights": (), "NoPlaces": (), "NoStep": (), "NoRow": (), "IsDown": (), "IsUp": (), "NothingDone": (),
    "NoLine": (),
}


class Errors(unittest.TestCase):

    def test_what_they_derive_from(self):
        self.assertEqual(GrowError.__bases__, (ValueError,))
        for name in FIELDS:
            self.assertEqual(getattr(errors, name).__bases__, (GrowError,), name)

    def test_there_are_no_others(self):
        found = [name for name, thing in vars(errors).items() if isinstance(thing, type)]
        self.assertEqual(sorted(found), sorted([*FIELDS, "GrowError"]))

    def test_they_keep_whatever_they_are_made_with(self):
        for name, fields in FIELDS.items():
            things = odd_things() + [1.5, {1}, nested(list, 5000), nested(tuple, 5000), nested(dict, 5000)]
            for thing in things:
                error = getattr(errors, name)(*[thing for _ in fields])
                self.assertEqual(sorted(vars(error)), sorted(fields))
                for field in fields:
                    self.assertIs(getattr(error, field), thing)

    def test_fields_stand_in_order(self):
        for name in ("BadRecord", "BadProgram"):
            error = getattr(errors, name)("put", 3)
            self.assertEqual((error.part, error.at), ("put", 3))

    def test_they_are_made_with_just_their_fields(self):
        for name, fields in FIELDS.items():
            with self.assertRaises(TypeError, msg=name):
                getattr(errors, name)(*range(len(fields) + 1))
            if fields:
                with self.assertRaises(TypeError, msg=name):
                    getattr(errors, name)(*range(len(fields) - 1))

    def test_they_are_equal_to_nothing_of_another_class(self):
        self.assertNotEqual(errors.BadWeb("wires"), errors.BadHall("wires"))
        self.assertNotEqual(errors.BadWeb("wires"), "wires")
        self.assertNotEqual(errors.NoWire(), errors.NoWeb())
        self.assertNotEqual(errors.NoWire(), ())

    def test_they_are_raised_and_caught(self):
        for name, fields in FIELDS.items():
            with self.assertRaises(GrowError):
                raise getattr(errors, name)(*fields)
            with self.assertRaises(ValueError):
                raise getattr(errors, name)(*fields)
