"""[15] and the interface of strangemill/house.py: what a house tells of its units."""

import unittest

from refusals import refusal
from samples import face, kind, way
from strangemill.errors import NoUnit, NoWay
from strangemill.house import House

# A family of four kinds, Low the lowest; ways told again further down; faces at several of them.
GO = ("go", ("num",), "Top")
SIGN = ("sign", (), "num")

TOP = kind("Top", "", ("Ping",), (("b", "num"), ("a", "Top")), (
    way(*GO, rows=(("ask",), ("give",))), way(*SIGN, rows=(("num", 1), ("give",))), way("top", rows=(("get", 0),)),
))
MID = kind("Mid", "Top", (), (), (way(*SIGN, rows=(("num", 2), ("give",))),))
NEAR = kind("Near", "Mid", ("Ping", "Aim"), (("d", "num"), ("c", "Ping")), (
    way("near", ("Near", "num"), "Aim"), way(*SIGN, rows=(("num", 3), ("give",))),
))
LOW = kind("Low", "Near", ("Zip",), (("e", "Low"),), (way(*GO, rows=(("drop",),)), way("low")))
SIDE = kind("Side", "Mid", ("Zip",), (("d", "Side"),), (way("near"), way(*GO)))
ALONE = kind("Alone")
PING = face("Ping", (SIGN, GO))
AIM = face("Aim", (("near", ("Near", "num"), "Aim"),))
ZIP = face("Zip", (GO,))

UNITS = [LOW, PING, SIDE, TOP, ZIP, ALONE, NEAR, AIM, MID]
SORTED = [AIM, ALONE, LOW, MID, NEAR, PING, SIDE, TOP, ZIP]

NO_UNITS = ("", "num", "low", "Lowe", "Lo", " Low", "Low\n", "any", "-", "1", "\u00e9", "L" * 5000)


class Case(unittest.TestCase):

    def setUp(self):
        self.house = House(list(UNITS))

    def refused(self, told, act, *asked, **named):
        self.assertEqual(refusal(act, *asked, **named), told)


class Units(Case):

    def test_units_by_the_order_of_names(self):
        self.assertEqual(self.house.units(), SORTED)
        self.assertEqual(House(UNITS[::-1]).units(), SORTED)
        self.assertEqual(House([]).units(), [])
        told = House([kind(name) for name in ("B", "A10", "Ab", "A9", "A", "A1")]).units()
        self.assertEqual([unit[1] for unit in told], ["A", "A1", "A10", "A9", "Ab", "B"])

    def test_unit_of(self):
        for unit in UNITS:
            self.assertEqual(self.house.unit_of(unit[1]), unit)
        for name in NO_UNITS:
            self.refused((NoUnit, name), self.house.unit_of, name)

    def test_len(self):
        self.assertEqual(len(self.house), 9)
        self.assertEqual(len(House([])), 0)
        self.assertEqual(len(House([kind(f"K{at}") for at in range(20)])), 20)


class Names(Case):

    NAMES = {
        "Top": ["Ping", "Top"],
        "Mid": ["Mid", "Ping", "Top"],
        "Near": ["Aim", "Mid", "Near", "Ping", "Top"],
        "Low": ["Aim", "Low", "Mid", "Near", "Ping", "Top", "Zip"],
        "Side": ["Mid", "Ping", "Side", "Top", "Zip"],
        "Alone": ["Alone"],
        "Ping": ["Ping"], "Aim": ["Aim"], "Zip": ["Zip"],
    }

    def test_names(self):
        for name, names in self.NAMES.items():
            self.assertEqual(self.house.names(name), names)
            self.assertIs(type(self.house.names(name)), list)

    def test_names_of_no_unit(self):
        for name in NO_UNITS:
            self.refused((NoUnit, name), self.house.names, name)

    def test_fits(self):
        for name, names in self.NAMES.items():
            for other in self.NAMES:
                self.assertIs(self.house.fits(name, other), other in names, (name, other))

    def test_fits_of_no_unit(self):
        for name in NO_UNITS:
            for other in self.NAMES:
                self.refused((NoUnit, name), self.house.fits, name, other)
                self.refused((NoUnit, name), self.house.fits, other, name)
            self.refused((NoUnit, name), self.house.fits, name, name)
            self.refused((NoUnit, name), self.house.fits, name, "Nobody")
            self.refused((NoUnit, "Nobody"), self.house.fits, "Nobody", name)


class Fields(Case):

    def test_from_the_top_down(self):
        top = [("b", "num"), ("a", "Top")]
        near = top + [("d", "num"), ("c", "Ping")]
        for name, fields in {
            "Top": top, "Mid": top, "Near": near, "Low": near + [("e", "Low")], "Side": top + [("d", "Side")], "Alone": [],
        }.items():
            self.assertEqual(self.house.fields(name), fields)
            self.assertIs(type(self.house.fields(name)), list)

    def test_of_no_kind(self):
        for name in NO_UNITS + ("Ping", "Aim", "Zip"):
            self.refused((NoUnit, name), self.house.fields, name)


class Ways(Case):

    def test_signatures(self):
        near = (("Near", "num"), "Aim")
        go, sign, rest = GO[1:], SIGN[1:], ((), "num")
        for unit, signatures in {
            "Top": {"go": go, "sign": sign, "top": rest},
            "Mid": {"go": go, "sign": sign, "top": rest},
            "Near": {"go": go, "sign": sign, "top": rest, "near": near},
            "Low": {"go": go, "sign": sign, "top": rest, "near": near, "low": rest},
            "Side": {"go": go, "sign": sign, "top": rest, "near": rest},
            "Alone": {},
            "Ping": {"go": go, "sign": sign}, "Aim": {"near": near}, "Zip": {"go": go},
        }.items():
            for name in ("go", "sign", "top", "near", "low", "way", "", "Top", "b", "gO"):
                if name in signatures:
                    self.assertEqual(self.house.signature(unit, name), signatures[name], (unit, name))
                else:
                    self.refused((NoWay, unit, name), self.house.signature, unit, name)

    def test_signatures_of_no_unit(self):
        for unit in NO_UNITS:
            for name in ("go", "", "Top"):
                self.refused((NoUnit, unit), self.house.signature, unit, name)

    def test_bodies(self):
        ways = {(unit[1], one[0]): one for unit in UNITS if unit[0] == "kind" for one in unit[5]}
        for kind_name, holders in {
            "Top": {"go": "Top", "sign": "Top", "top": "Top"},
            "Mid": {"go": "Top", "sign": "Mid", "top": "Top"},
            "Near": {"go": "Top", "sign": "Near", "top": "Top", "near": "Near"},
            "Low": {"go": "Low", "sign": "Near", "top": "Top", "near": "Near", "low": "Low"},
            "Side": {"go": "Side", "sign": "Mid", "top": "Top", "near": "Side"},
            "Alone": {},
        }.items():
            for name in ("go", "sign", "top", "near", "low", "way", "", "Top", "b", "gO"):
                if name in holders:
                    body = (holders[name], ways[holders[name], name])
                    self.assertEqual(self.house.body(kind_name, name), body, (kind_name, name))
                else:
                    self.refused((NoWay, kind_name, name), self.house.body, kind_name, name)

    def test_bodies_of_no_kind(self):
        for unit in NO_UNITS + ("Ping", "Aim", "Zip"):
            for name in ("go", "near", "nothing", "", "Top"):
                self.refused((NoUnit, unit), self.house.body, unit, name)

    def test_a_way_of_a_kind_beside_or_below_is_none(self):
        self.refused((NoWay, "Near", "low"), self.house.body, "Near", "low")
        self.refused((NoWay, "Mid", "near"), self.house.signature, "Mid", "near")
        self.refused((NoWay, "Side", "low"), self.house.signature, "Side", "low")


class Equal(Case):

    def test_the_same_units(self):
        self.assertTrue(self.house == House(UNITS[::-1]))
        self.assertFalse(self.house != House(SORTED))
        self.assertTrue(House([]) == House([]))
        self.assertTrue(self.house == self.house)

    def test_other_units(self):
        for other in (
            [unit for unit in UNITS if unit != ALONE],
            UNITS + [kind("More")],
            [kind("Alone", fields=(("a", "num"),)) if unit == ALONE else unit for unit in UNITS],
            [kind("Alone2") if unit == ALONE else unit for unit in UNITS],
            [],
        ):
            self.assertFalse(self.house == House(other))
            self.assertTrue(self.house != House(other))
            self.assertFalse(House(other) == self.house)
        self.assertFalse(House([kind("A"), kind("B", "A")]) == House([kind("A", "B"), kind("B")]))
        self.assertFalse(House([kind(ways=(way(),))]) == House([kind(ways=(way(rows=(("give",),)),))]))

    def test_nothing_else(self):
        for other in (None, 0, "", [], (), {}, UNITS, SORTED, tuple(SORTED), self.house.units(), 9, "House", House, object()):
            self.assertIs(self.house == other, False)
            self.assertIs(other == self.house, False)
            self.assertIs(self.house != other, True)
        self.assertIs(House([]) == [], False)
        self.assertIs(House([]) == None, False)


class Own(Case):

    def test_the_lists_that_are_told_are_the_askers_own(self):
        for asked in (
            lambda: self.house.units(), lambda: self.house.names("Low"), lambda: self.house.names("Ping"),
            lambda: self.house.fields("Low"), lambda: self.house.fields("Top"), lambda: self.house.fields("Alone"),
        ):
            told = asked()
            held = list(told)
            told.append("more")
            told.reverse()
            self.assertEqual(asked(), held)
            told.clear()
            self.assertEqual(asked(), held)
            self.assertIsNot(asked(), asked())
        self.assertEqual(self.house, House(UNITS))

    def test_the_list_handed_in_may_be_changed_behind(self):
        units = list(UNITS)
        house = House(units)
        self.assertEqual(units, UNITS)
        units.clear()
        self.assertEqual(house.units(), SORTED)
        self.assertEqual(len(house), 9)
        units.append(kind("More"))
        self.assertEqual(house, self.house)
        self.refused((NoUnit, "More"), house.unit_of, "More")

    def test_the_same_again(self):
        for _ in range(3):
            self.refused((NoWay, "Low", "x"), self.house.body, "Low", "x")
            self.refused((NoUnit, "X"), self.house.body, "X", "x")
            self.assertEqual(self.house.body("Low", "sign"), ("Near", NEAR[5][1]))
            self.assertEqual(self.house.units(), SORTED)
            self.assertEqual(self.house, House(UNITS))

    def test_each_method_is_defined_in_the_class_itself(self):
        for name in ("units", "unit_of", "names", "fits", "fields", "signature", "body", "changed", "__eq__", "__len__"):
            self.assertIn(name, vars(House))
        self.assertEqual(House.__module__, "strangemill.house")


if __name__ == "__main__":
    unittest.main()
