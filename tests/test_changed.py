"""[16]: houses told changed."""

import unittest

from refusals import refusal
from samples import face, kind, way
from strangemill.errors import BadHouse, NoUnit, TwoUnits
from strangemill.house import House

A, B, C, F = kind("A"), kind("B", "A"), kind("C", "", ("F",), ways=(way(),)), face("F")
NEWER = kind("A", fields=(("a", "num"),))


class Changed(unittest.TestCase):

    def setUp(self):
        self.house = House([A, B, C, F])

    def tearDown(self):
        self.assertEqual(self.house, House([A, B, C, F]))
        self.assertEqual(self.house.units(), [A, B, C, F])
        self.assertEqual(self.house.names("B"), ["A", "B"])

    def told(self, units, *expected, **named):
        changed = self.house.changed(units, **named)
        self.assertIs(type(changed), House)
        self.assertEqual(changed.units(), list(expected))
        self.assertEqual(changed, House(list(expected)))
        self.assertEqual(len(changed), len(expected))
        return changed

    def refused(self, told, units, **named):
        self.assertEqual(refusal(self.house.changed, units, **named), told)

    def test_by_nothing(self):
        changed = self.told([], A, B, C, F)
        self.assertEqual(changed, self.house)
        self.told([], A, B, C, F, out=())
        self.told([], A, B, C, F, out=[])

    def test_units_in_the_place_of_others(self):
        changed = self.told([NEWER], NEWER, B, C, F)
        self.assertEqual(changed.fields("B"), [("a", "num")])
        self.assertEqual(self.house.fields("B"), [])
        self.told([A], A, B, C, F)
        self.told([kind("B"), NEWER], NEWER, kind("B"), C, F)
        self.told([face("A"), kind("B")], face("A"), kind("B"), C, F)
        self.told([kind("F"), kind("C")], A, B, kind("C"), kind("F"))

    def test_units_that_are_added(self):
        self.told([kind("Bb")], A, B, kind("Bb"), C, F)
        self.told([kind("E", "D"), kind("D", "B")], A, B, C, kind("D", "B"), kind("E", "D"), F)
        changed = self.told([kind("D", "B")], A, B, C, kind("D", "B"), F)
        self.assertEqual(changed.names("D"), ["A", "B", "D"])

    def test_units_that_go_out(self):
        for out in (("B",), ["B"]):
            self.told([], A, C, F, out=out)
        for out in (("B", "A"), ["A", "B"]):
            self.told([], C, F, out=out)
        self.told([], out=("F", "A", "C", "B"))
        self.told([kind("C")], A, B, kind("C"), out=["F"])

    def test_all_at_once(self):
        self.told([kind("D"), kind("B", "D"), NEWER], NEWER, kind("B", "D"), kind("D"), out=("C", "F"))

    def test_of_a_house_without_units(self):
        self.house = House([])
        self.told([], *[])
        self.told([B, A], A, B)
        self.refused((NoUnit, "A"), [], out=("A",))
        self.house = House([A, B, C, F])

    def test_two_units(self):
        self.refused((TwoUnits, "A"), [A, A])
        self.refused((TwoUnits, "B"), [A, B, kind("C"), kind("B"), kind("A")])
        self.refused((TwoUnits, "Z"), [kind("Z"), kind("Y"), kind("Z"), kind("Y")])
        self.refused((TwoUnits, "Y"), [kind("Z"), kind("Y"), kind("Y"), kind("Z"), kind("A"), kind("A")])
        self.refused((TwoUnits, "A"), [face("A"), kind("A")])

    def test_no_unit(self):
        for out in (("Z",), ["Z"], ("B", "Z"), ("Z", "Y"), ("Z", "Z", "B"), ("B", "Z", "B")):
            self.refused((NoUnit, "Z"), [], out=out)
        for name in ("", "num", "a", "b ", "\n", "B" * 5000):
            self.refused((NoUnit, name), [], out=(name,))

    def test_no_unit_that_stands_there_ahead(self):
        self.refused((NoUnit, "B"), [], out=("B", "B"))
        self.refused((NoUnit, "B"), [], out=["B", "C", "B", "C", "Z"])
        self.refused((NoUnit, "C"), [], out=["B", "C", "C", "B"])

    def test_no_unit_that_is_one_of_the_lists(self):
        self.refused((NoUnit, "B"), [B], out=("B",))
        self.refused((NoUnit, "B"), [kind("D"), kind("B")], out=["C", "B", "Z"])
        self.refused((NoUnit, "D"), [kind("D")], out=("D",))
        self.refused((NoUnit, "D"), [kind("D")], out=("B", "D"))

    def test_bad_house(self):
        self.refused((BadHouse, "B", "above"), [], out=("A",))
        self.refused((BadHouse, "C", "faces"), [], out=("F",))
        self.refused((BadHouse, "A", "ring"), [kind("A", "B")])
        self.refused((BadHouse, "C", "lacks"), [kind("C", "", ("F",))])
        self.refused((BadHouse, "C", "lacks"), [face("F", (("way", ("num",), "num"),))])
        self.refused((BadHouse, "D", "types"), [kind("D", fields=(("a", "Z"),))])
        self.refused((BadHouse, "B", "fields"), [NEWER, kind("B", "A", fields=(("a", "num"),))])

    def test_many(self):
        more = [kind(f"K{at}") for at in range(17)]
        self.told(more[:16], A, B, C, F, *sorted(more[:16]))
        self.refused((BadHouse, "", "many"), more)
        self.told(more, A, C, F, *sorted(more), out=("B",))
        self.refused((BadHouse, "", "many"), more + [kind("L")], out=("B",))
        self.told(more + [NEWER], NEWER, C, F, *sorted(more), out=("B",))

    def test_two_units_go_ahead_of_no_unit(self):
        self.refused((TwoUnits, "B"), [B, B], out=("Z",))
        self.refused((TwoUnits, "Y"), [kind("Y", "X"), kind("Y")], out=("Z", "A", "A"))

    def test_no_unit_goes_ahead_of_bad_house(self):
        self.refused((NoUnit, "Z"), [kind("A", "A")], out=("Z",))
        self.refused((NoUnit, "Z"), [kind(f"K{at}") for at in range(30)], out=("A", "Z"))
        self.refused((NoUnit, "Z"), [], out=("A", "Z"))
        self.refused((TwoUnits, "A"), [kind("A", "A"), kind("A", "A")])

    def test_what_is_handed_in_stays_and_may_be_changed_behind(self):
        units, out = [NEWER, kind("D")], ["B"]
        changed = self.house.changed(units, out=out)
        self.assertEqual((units, out), ([NEWER, kind("D")], ["B"]))
        units.clear()
        out.append("C")
        self.assertEqual(changed.units(), [NEWER, C, kind("D"), F])
        out = ["B", "B"]
        self.refused((NoUnit, "B"), units, out=out)
        self.assertEqual((units, out), ([], ["B", "B"]))

    def test_changed_again(self):
        first = self.house.changed([NEWER])
        second = first.changed([A])
        third = second.changed([], out=("B",))
        self.assertEqual(second, self.house)
        self.assertEqual(first.units(), [NEWER, B, C, F])
        self.assertEqual(third.units(), [A, C, F])
        self.assertEqual(third.changed([B]), self.house)

    def test_the_same_again(self):
        for _ in range(3):
            self.refused((BadHouse, "B", "above"), [], out=("A",))
            self.told([NEWER], NEWER, B, C, F)


if __name__ == "__main__":
    unittest.main()
