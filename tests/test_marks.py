"""[20]: marks, what they cover and what they have in common."""

import unittest

from samples import face, kind, way
from strangemill.house import House
from strangemill.marks import covers, in_common, mark_of

HOUSE = House([
    kind("Top", faces=("Ping", "Aim"), ways=(way("sign"),)), kind("Mid", "Top"), kind("Low", "Mid", ("Zip",)), kind("Alone"),
    face("Ping", (("sign", (), "num"),)), face("Aim", (("sign", (), "num"),)), face("Zip", (("sign", (), "num"),)),
])

TUPLES = ((), ("A",), ("B",), ("A", "B"), ("A", "C"), ("B", "C"), ("A", "B", "C"), ("Nobody",))


class MarkOf(unittest.TestCase):

    def test_num(self):
        self.assertEqual(mark_of(HOUSE, "num"), "num")
        self.assertEqual(mark_of(House([]), "num"), "num")

    def test_kinds(self):
        self.assertEqual(mark_of(HOUSE, "Alone"), ("Alone",))
        self.assertEqual(mark_of(HOUSE, "Top"), ("Aim", "Ping", "Top"))
        self.assertEqual(mark_of(HOUSE, "Mid"), ("Aim", "Mid", "Ping", "Top"))
        self.assertEqual(mark_of(HOUSE, "Low"), ("Aim", "Low", "Mid", "Ping", "Top", "Zip"))

    def test_faces(self):
        self.assertEqual(mark_of(HOUSE, "Ping"), ("Ping",))
        self.assertEqual(mark_of(HOUSE, "Zip"), ("Zip",))

    def test_no_unit(self):
        for name in ("Nobody", "Lo", "Lowe", "Numx"):
            self.assertEqual(mark_of(HOUSE, name), ())
        self.assertEqual(mark_of(House([]), "Top"), ())


class Covers(unittest.TestCase):

    def test_any(self):
        for other in ("any", "num") + TUPLES:
            self.assertIs(covers("any", other), True)
            self.assertIs(covers(other, "any"), other == "any")

    def test_num(self):
        self.assertIs(covers("num", "num"), True)
        for other in TUPLES:
            self.assertIs(covers("num", other), False)
            self.assertIs(covers(other, "num"), False)

    def test_names(self):
        for mark in TUPLES:
            for other in TUPLES:
                self.assertIs(covers(mark, other), set(mark) <= set(other), (mark, other))
        self.assertIs(covers((), ("A", "B")), True)
        self.assertIs(covers(("A",), ("A", "B")), True)
        self.assertIs(covers(("A", "B"), ("A",)), False)
        self.assertIs(covers(("B",), ("A", "C")), False)


class InCommon(unittest.TestCase):

    def test_alike(self):
        for mark in ("any", "num") + TUPLES:
            self.assertEqual(in_common(mark, mark), mark)

    def test_of_other_sorts(self):
        for mark in TUPLES:
            for other in ("any", "num"):
                self.assertEqual(in_common(mark, other), "any")
                self.assertEqual(in_common(other, mark), "any")
        self.assertEqual(in_common("num", "any"), "any")
        self.assertEqual(in_common("any", "num"), "any")

    def test_names(self):
        for mark in TUPLES:
            for other in TUPLES:
                self.assertEqual(in_common(mark, other), tuple(sorted(set(mark) & set(other))), (mark, other))
        self.assertEqual(in_common(("A", "B", "D"), ("B", "C", "D")), ("B", "D"))
        self.assertEqual(in_common(("A",), ("B",)), ())
        self.assertEqual(in_common((), ("B",)), ())

    def test_it_is_the_narrowest_that_covers_both(self):
        marks = ("any", "num") + TUPLES
        for mark in marks:
            for other in marks:
                told = in_common(mark, other)
                self.assertTrue(covers(told, mark) and covers(told, other))
                for wider in marks:
                    if covers(wider, mark) and covers(wider, other):
                        self.assertTrue(covers(wider, told), (mark, other, wider))


if __name__ == "__main__":
    unittest.main()
