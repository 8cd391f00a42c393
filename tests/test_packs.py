"""[12]: the packs of units, number by number, and that units and packs lead to one another."""

import unittest

from chance import units
from refusals import bad_code
from samples import GIVE, PLAIN, RICH_FACE, RICH_KIND, WORDS, face, kind, kind_of_way, way
from strangemill.packs import packed, unpacked
from strangemill.units import is_unit


class Packed(unittest.TestCase):

    def told(self, unit, words, *codes):
        pack = packed(unit)
        self.assertEqual(pack, (tuple(words.split(" ")), codes))
        self.assertEqual([type(one) for one in (pack, *pack)], [tuple] * 3)
        self.assertEqual(unpacked(*pack), unit)
        self.assertEqual(packed(unit), pack)

    def rows(self, words, rows, *codes, entries=((0, 0),), behind=(1, 0, 0, 0)):
        """The codes of these rows, in a way of a kind; the words behind the first two."""
        unit = kind_of_way(rows=rows, entries=entries)
        self.told(unit, f"Kind way{words}", 1, 0, 0, 0, 0, 1, 1, 0, 0, len(rows), *codes, *behind)

    def test_kinds(self):
        self.told(kind("K"), "K", 1, 0, 0, 0, 0, 0)
        self.told(kind("K", "A"), "K A", 1, 0, 2, 0, 0, 0)
        self.told(kind("K", "K"), "K", 1, 0, 1, 0, 0, 0)
        self.told(kind("K", "", ("F", "G", "H")), "K F G H", 1, 0, 0, 3, 1, 2, 3, 0, 0)
        self.told(kind("K", "A", ("A", "K")), "K A", 1, 0, 2, 2, 1, 0, 0, 0)

    def test_fields(self):
        self.told(kind("K", fields=(("a", "num"),)), "K a", 1, 0, 0, 0, 1, 1, 0, 0)
        self.told(kind("K", fields=(("a", "A"), ("b", "K"), ("c", "A"))), "K a A b c", 1, 0, 0, 0, 3, 1, 3, 3, 1, 4, 3, 0)
        self.told(kind("K", fields=(("num", "num"),)), "K num", 1, 0, 0, 0, 1, 1, 0, 0)

    def test_faces(self):
        self.told(face("F"), "F way", 2, 0, 1, 1, 0, 0)
        self.told(face("F", (("a", ("num", "F", "B"), "B"),)), "F a B", 2, 0, 1, 1, 3, 0, 1, 3, 3)
        self.told(face("F", (("a", (), "B"), ("b", ("C",), "num"))), "F a B b C", 2, 0, 2, 1, 0, 3, 3, 1, 5, 0)

    def test_ways(self):
        self.told(kind("K", ways=(way("a"),)), "K a", 1, 0, 0, 0, 0, 1, 1, 0, 0, 2, 12, 1, 10, 0, 0)
        self.told(
            kind("K", ways=(way("a", ("num", "K", "B"), "B"), way("b", (), "num", (("ask",),)))), "K a B b",
            1, 0, 0, 0, 0, 2, 1, 3, 0, 1, 3, 3, 2, 12, 1, 10, 0, 0, 3, 0, 0, 1, 0, 0, 0,
        )

    def test_the_words_of_rows_without_parts(self):
        for number, word in enumerate(PLAIN):
            self.rows("", ((word,),), number)
        self.rows("", tuple((word,) for word in PLAIN), *range(12))

    def test_rows_with_parts(self):
        self.rows("", (("num", 7),), 12, 7)
        self.rows("", (("num", -1000000000000), ("num", 999999999999)), 12, -1000000000000, 12, 999999999999)
        self.rows("", (("get", 0), ("get", 7)), 13, 0, 13, 7)
        self.rows("", (("put", 5),), 14, 5)
        self.rows(" A", (("fits", "A"), ("fits", "Kind")), 15, 2, 15, 0)
        self.rows(" A", (("new", "A"), ("new", "A")), 16, 2, 16, 2)
        self.rows(" A a", (("read", "A", "a"),), 17, 2, 3)
        self.rows(" a A", (("write", "Kind", "a"), ("write", "A", "way")), 18, 0, 2, 18, 3, 1)
        self.rows(" A a", (("call", "A", "a"),), 19, 2, 3)
        self.rows(" F a", (("hail", "F", "a"),), 20, 2, 3)

    def test_each_word_has_its_number(self):
        for number, word in enumerate(WORDS):
            parts = {"num": (5,), "get": (5,), "put": (5,), "fits": ("A",), "new": ("A",), "jump": (0,), "nought": (0,)}
            names = ("A", "a") if word in ("read", "write", "call", "hail") else ()
            unit = kind_of_way(rows=((word,) + parts.get(word, names),), entries=((0, 0),))
            self.assertEqual(packed(unit)[1][10], number)
            self.assertEqual(unpacked(*packed(unit)), unit)

    def test_numbers_of_rows_count_codes(self):
        rows = (("jump", 4), ("ask",), ("read", "Kind", "way"), ("num", 9), ("nought", 1), ("jump", 5))
        self.rows(
            "", rows, 21, 8, 0, 17, 0, 1, 12, 9, 22, 2, 21, 10,
            entries=((0, 0), (1, 3), (4, 8), (5, 1)), behind=(4, 0, 0, 2, 3, 8, 8, 10, 1, 0),
        )

    def test_catches(self):
        rows = (("num", 1), ("ask",), ("read", "Kind", "way"), ("drop",), ("give",))
        self.told(
            kind_of_way(rows=rows, entries=((1, 1), (3, 1)), catches=((0, 1, 1), (2, 5, 3), (3, 4, 1), (2, 5, 3))), "Kind way",
            1, 0, 0, 0, 0, 1, 1, 0, 0, 5, 12, 1, 0, 17, 0, 1, 2, 10, 2, 2, 1, 6, 1, 4, 0, 2, 2, 3, 8, 6, 6, 7, 2, 3, 8, 6,
        )

    def test_several_ways_count_each_its_own_codes(self):
        first = way("a", rows=(("num", 1), ("jump", 0)), entries=((0, 0),))
        second = way("b", rows=(("ask",), ("ask",), ("jump", 1)), entries=((1, 1),), catches=((0, 3, 1),))
        self.told(
            kind("K", ways=(first, second)), "K a b",
            1, 0, 0, 0, 0, 2, 1, 0, 0, 2, 12, 1, 21, 0, 1, 0, 0, 0, 2, 0, 0, 3, 0, 0, 21, 1, 1, 1, 1, 1, 0, 4, 1,
        )

    def test_the_rich_units(self):
        self.told(
            RICH_KIND, "Account Thing Payer Owner total owner Person pay name rest",
            1, 0, 2, 2, 2, 3, 2, 4, 0, 5, 7, 2,
            7, 2, 0, 7, 1, 14,
            12, -5, 13, 0, 14, 7, 15, 2, 16, 6, 17, 0, 4, 18, 0, 4, 19, 6, 8, 20, 2, 7, 21, 26, 22, 0, 2, 0, 10,
            3, 0, 0, 8, 8, 26, 1, 2, 0, 8, 26, 10, 29, 26,
            9, 0, 0, 2, 12, 1, 10, 0, 0,
        )
        self.told(RICH_FACE, "Payer pay Person Account rest", 2, 0, 2, 1, 2, 0, 3, 4, 4, 0, 0)

    def test_units_by_chance(self):
        for unit in units(500, 3):
            pack = packed(unit)
            told = unpacked(*pack)
            self.assertEqual(told, unit)
            self.assertTrue(is_unit(told))
            self.assertEqual(packed(told), pack)

    def test_a_great_unit(self):
        rows = (("read", "Kind", "way"),) * 38 + GIVE
        unit = kind(ways=tuple(way(f"w{at}", ("num",) * 6, "Kind", rows, tuple((row, 1) for row in range(40)),
                                   ((0, 40, 7),) * 4) for at in range(8)))
        self.assertEqual(unpacked(*packed(unit)), unit)
        self.assertIsNone(bad_code(*packed(unit)))


if __name__ == "__main__":
    unittest.main()
