"""[3] and the interface of strangemill/errors.py."""

import unittest

from strangemill import errors
from strangemill.errors import MillError

FIELDS = {
    "BadLine": ("line",),
    "BadCode": ("place",),
    "BadHouse": ("unit", "word"),
    "TwoUnits": ("name",),
    "NoUnit": ("name",),
    "NoWay": ("unit", "name"),
    "NoRun": ("word",),
    "NoAsk": (),
    "NoThing": ("number",),
    "Stands": ("what", "number", "told"),
    "BadPlan": ("kind", "way"),
    "NoStep": (),
    "Taken": ("name",),
    "NoName": ("name",),
}


class Refusals(unittest.TestCase):

    def test_there_are_fourteen_in_this_file_and_no_others(self):
        self.assertEqual(len(FIELDS), 14)
        self.assertEqual(sorted(one.__name__ for one in MillError.__subclasses__()), sorted(FIELDS))
        for name in list(FIELDS) + ["MillError"]:
            self.assertEqual(getattr(errors, name).__module__, "strangemill.errors")

    def test_mill_error_stands_straight_beneath_value_error(self):
        self.assertEqual(MillError.__bases__, (ValueError,))

    def test_each_stands_straight_beneath_mill_error(self):
        for name in FIELDS:
            self.assertEqual(getattr(errors, name).__bases__, (MillError,), name)

    def test_none_stands_beneath_another(self):
        for name in FIELDS:
            for other in FIELDS:
                if name != other:
                    self.assertFalse(issubclass(getattr(errors, name), getattr(errors, other)), (name, other))

    def test_each_has_its_fields_by_their_places(self):
        for name, fields in FIELDS.items():
            told = [f"{field} told" for field in fields]
            made = getattr(errors, name)(*told)
            self.assertEqual(vars(made), dict(zip(fields, told)), name)

    def test_each_is_made_of_just_its_fields(self):
        for name, fields in FIELDS.items():
            if fields:
                with self.assertRaises(TypeError, msg=name):
                    getattr(errors, name)(*fields[1:])
                with self.assertRaises(TypeError, msg=name):
                    getattr(errors, name)(*fields, "more")

    def test_fields_keep_values_of_every_kind(self):
        road = [0, 1, 4]
        made = errors.Stands("frame", 2, road)
        self.assertEqual((made.what, made.number, made.told), ("frame", 2, [0, 1, 4]))
        self.assertEqual(errors.BadHouse("", "many").unit, "")
        self.assertEqual(errors.BadLine(0).line, 0)
        self.assertEqual(errors.NoThing(-1).number, -1)

    def test_each_can_be_raised_and_is_caught_as_what_it_stands_beneath(self):
        for name, fields in FIELDS.items():
            for caught in (getattr(errors, name), MillError, ValueError):
                with self.assertRaises(caught):
                    raise getattr(errors, name)(*fields)


if __name__ == "__main__":
    unittest.main()
