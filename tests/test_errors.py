"""Points 2 and 3, and the line of the interface for fillbehind/errors.py."""

import unittest

from fillbehind import errors
from tests import strange

FIELDS = {
    "NoStatement": (), "NoRow": ("part",), "NoNumber": ("part",), "NoWriter": ("part", "index"),
    "NoFill": ("part",), "NoPhase": ("part",), "NoRollout": ("part", "index"), "NoRun": ("part",),
    "NoKey": ("key",), "NoDeed": ("deed",), "NotNow": ("word",), "NoDeeds": ("index",), "NoState": (),
    "NoMove": ("deed",), "NoHistory": ("index",), "NoTable": ("index",), "TooMany": ("most",),
    "NoWord": ("word",), "NoAnswer": ("part", "index"), "NoOption": ("option",), "NoOptions": ("index",),
    "NoText": ("line",), "NoChange": ("word",),
}


class TestErrors(unittest.TestCase):
    def test_all_classes_are_there(self):
        found = {name for name in vars(errors) if isinstance(getattr(errors, name), type)}
        self.assertEqual(found, {"FillError", *FIELDS})
        self.assertEqual(len(found), 24)

    def test_each_derives_directly(self):
        self.assertEqual(errors.FillError.__bases__, (ValueError,))
        for name in FIELDS:
            self.assertEqual(getattr(errors, name).__bases__, (errors.FillError,), name)
            self.assertEqual(getattr(errors, name).__module__, "fillbehind.errors")

    def test_fields_by_position_and_by_name_keep_any_values(self):
        for name, fields in FIELDS.items():
            kind = getattr(errors, name)
            for value in strange.values():
                given = [value, ["second"]][:len(fields)]
                by_name = dict(zip(fields, given))
                for error in (kind(*given), kind(**by_name)):
                    self.assertEqual(set(vars(error)), set(fields), name)
                    for field in fields:
                        self.assertIs(getattr(error, field), by_name[field], name)
                if len(fields) == 2:
                    mixed = kind(given[0], **{fields[1]: given[1]})
                    self.assertIs(mixed.index, given[1])

    def test_wrong_number_of_fields(self):
        for name, fields in FIELDS.items():
            kind = getattr(errors, name)
            with self.assertRaises(TypeError):
                kind(*range(len(fields) + 1))
            with self.assertRaises(TypeError):
                kind(nothing=1)
            if fields:
                with self.assertRaises(TypeError):
                    kind()

    def test_each_can_be_raised_and_caught(self):
        for name, fields in FIELDS.items():
            kind = getattr(errors, name)
            with self.assertRaises(errors.FillError) as caught:
                raise kind(*range(len(fields)))
            self.assertIs(type(caught.exception), kind)
