"""[24], [26]: roads, told ones and any list of whole numbers."""

import unittest

from look_rules import Body, road_holds_by_rules
from refusals import refusal
from samples import face, kind, way
from strangemill.errors import NoUnit, NoWay
from strangemill.house import House
from strangemill.look import beginning, paper_from, paper_of, road_from, road_of
from strangemill.lookers import road_holds

PLAY = ("play", (), "num")
HOUSE = House([
    kind("Base", fields=(("many", "num"),), ways=(way(*PLAY, rows=(("ask",), ("drop",))),)),
    kind("Sub", "Base", ("Player",)), face("Player", (PLAY,)), kind("Other"),
])
BASE, SUB = ("Base",), ("Base", "Player", "Sub")
ANYS = ("any",) * 8


def body(*rows, entries=(), catches=(), gives="num", takes=(), holder="Base"):
    return (holder, ("way", takes, gives, rows, entries, catches))


# Bodies with the length of a shortest road from their beginning.
WRONG = {
    "one row": (body(("drop",)), 1),
    "off": (body(("ask",)), 2),
    "lack": (body(("ask",), ("drop",), ("new", "Nobody")), 3),
    "height": (body(("ask",), ("say",), ("ask",), ("give",), entries=((2, 1),)), 3),
    "high": (body(*[("num", 1)] * 9), 9),
    "a nought's other row": (body(("ask",), ("nought", 4), ("ask",), ("give",), ("give",), entries=((4, 0),)), 3),
    "both rows of a nought": (body(("ask",), ("nought", 4), ("ask",), ("drop",), ("give",), entries=((4, 0),)), 3),
    "around a loop": (
        # At first box 1 is a number; it is none any more when one comes round.
        body(("get", 1), ("say",), ("get", 0), ("put", 1), ("jump", 0), entries=((0, 0),), takes=("num",)), 7),
    "twice around a loop": (
        body(("get", 1), ("say",), ("get", 2), ("put", 1), ("get", 0), ("put", 2), ("jump", 0), entries=((0, 0),),
             takes=("num", "num")), 16),
    "the catch": (body(("num", 1), ("throw",), ("say",), ("give",), entries=((2, 1),), catches=((1, 2, 2),)), 4),
    "the catch and not the deed": (
        body(("num", 1), ("num", 0), ("part",), ("give",), ("give",), ("say",), ("drop",), entries=((5, 1),), catches=((2, 3, 5),)), 5),
    "the deed and not the catch": (
        body(("num", 1), ("num", 0), ("part",), ("drop",), ("give",), ("give",), entries=((5, 1),), catches=((2, 3, 5),)), 5),
    "a type that is too wide": (body(("get", 1), ("read", "Sub", "many"), ("give",), takes=("Base",)), 2),
    "a thing that fits more where one comes, less where one comes else": (
        body(("ask",), ("nought", 4), ("get", 1), ("put", 2), ("get", 2), ("call", "Sub", "play"), ("give",),
             entries=((4, 0),), takes=("Sub", "Base")), 4),
}

# Bodies with a paper.
RIGHT = {
    "a give": body(("ask",), ("give",)),
    "a throw": body(("ask",), ("throw",)),
    "a jump to its own row": body(("jump", 0), entries=((0, 0),)),
    "a loop": body(("get", 1), ("nought", 8), ("get", 1), ("num", 1), ("minus",), ("put", 1), ("jump", 0), ("ask",), ("ask",),
                   ("give",), entries=((0, 0), (8, 0)), takes=("num",)),
    "a throw that is caught for ever": body(("ask",), ("throw",), entries=((1, 1),), catches=((1, 2, 1),)),
    "rows behind that nobody comes to": body(("ask",), ("give",), ("drop",), ("drop",), ("new", "Nobody")),
    "an entry that nobody comes to": body(("ask",), ("give",), ("drop",), ("drop",), entries=((2, 0),)),
}


class Told(unittest.TestCase):

    def shortest(self, house, there, stand, length):
        road = road_from(house, there, stand)
        self.assertEqual(len(road), length)
        rules = Body(house, there)
        self.assertTrue(road_holds_by_rules(rules, stand, road))
        self.assertIs(road_holds(house, there, stand, road), True)
        self.assertIsNone(paper_from(house, there, stand))
        found = rules.reached(stand, 5000)
        self.assertEqual(min(len(told) for one, told in found.items() if rules.wrong(one)), length)

    def test_as_short_as_any(self):
        for name, (there, length) in WRONG.items():
            with self.subTest(name):
                self.shortest(HOUSE, there, beginning(HOUSE, there), length)

    def test_none_where_nothing_goes_wrong(self):
        for name, there in RIGHT.items():
            with self.subTest(name):
                self.assertIsNone(road_from(HOUSE, there, beginning(HOUSE, there)))

    def test_just_one_of_paper_and_road(self):
        for there in list(RIGHT.values()) + [told[0] for told in WRONG.values()]:
            stand = beginning(HOUSE, there)
            self.assertNotEqual(paper_from(HOUSE, there, stand) is None, road_from(HOUSE, there, stand) is None)

    def test_only_one_road_is_as_short(self):
        self.assertEqual(road_from(HOUSE, WRONG["around a loop"][0], beginning(HOUSE, WRONG["around a loop"][0])),
                         [0, 1, 2, 3, 4, 0, 1])
        there = WRONG["a nought's other row"][0]
        self.assertEqual(road_from(HOUSE, there, beginning(HOUSE, there)), [0, 1, 4])

    def test_from_stands_other_than_the_beginning(self):
        there = RIGHT["a loop"]
        for stand, length in (
            ((10, ANYS, ("num",)), 1),            # behind the last row
            ((10, ANYS, ()), 1),
            ((0, ANYS, ("num",)), 1),             # an entry with another height
            ((8, ANYS, ("num", "num")), 1),
            ((0, ANYS, ()), 2),                   # marks that do not do
            ((3, ANYS, (BASE,)), 2),
            ((3, ANYS, ("any", "num")), None),    # what lies beneath is no matter, up to the entry
            ((9, ANYS, (BASE, "num")), None),
            ((9, ANYS, ("num", BASE)), 1),
            ((4, ("num",) * 8, ("num", "num")), None),
            ((4, ANYS, ("num", "num")), None),    # box 1 is put before it is got again
        ):
            with self.subTest(stand):
                if length is None:
                    length = {9: None, 4: None, 3: 5}[stand[0]]
                if length is None:
                    self.assertIsNone(road_from(HOUSE, there, stand))
                    self.assertIsNotNone(paper_from(HOUSE, there, stand))
                else:
                    self.shortest(HOUSE, there, stand, length)

    def test_marks_of_names_that_the_house_does_not_have(self):
        there = body(("get", 1), ("read", "Base", "many"), ("give",))
        self.assertIsNone(road_from(HOUSE, there, (0, ("any", ("Base", "Zebra")) + ANYS[2:], ())))
        self.assertEqual(road_from(HOUSE, there, (0, ("any", ("Zebra",)) + ANYS[2:], ())), [0, 1])

    def test_the_way_need_not_stand_in_the_house(self):
        there = body(("get", 0), ("read", "Base", "many"), ("give",), holder="Nobody")
        self.assertEqual(road_from(HOUSE, there, (0, ANYS, ())), [0, 1])
        self.assertIsNone(road_from(HOUSE, there, (0, (SUB,) + ANYS[1:], ())))
        self.assertEqual(road_from(House([]), there, (0, (SUB,) + ANYS[1:], ())), [0, 1])

    def test_many_marks_in_many_boxes_take_no_time(self):
        rows = []
        for at in range(6, 0, -1):
            rows += [("get", at), ("put", at + 1), ("ask",), ("nought", 0)]
        rows += [("ask",), ("put", 1), ("get", 7), ("get", 6), ("same",), ("drop",), ("jump", 0)]
        there = body(*rows, entries=((0, 0),), takes=("Base", "Sub", "Other", "Base", "Sub", "Other"))
        stand = beginning(HOUSE, there)
        road = road_from(HOUSE, there, stand)
        self.assertTrue(road_holds(HOUSE, there, stand, road))
        # Once round till box 1 has a number, then box by box up to 6, and on to the same.
        self.assertEqual(len(road), 31 + 24 + 20 + 16 + 12 + 29)
        self.assertIsNone(paper_from(HOUSE, there, stand))

    def test_the_list_is_the_askers_own_and_the_same_each_time(self):
        there = WRONG["around a loop"][0]
        stand = beginning(HOUSE, there)
        told = road_from(HOUSE, there, stand)
        held = list(told)
        told.clear()
        self.assertEqual(road_from(HOUSE, there, stand), held)


class Of(unittest.TestCase):

    OWN = House([
        kind("Top", ways=(way("go", rows=(("get", 0), ("call", "Top", "go"), ("give",))), way("bad", rows=(("ask",), ("drop",))))),
        kind("Mid", "Top", (), (), (way("go", rows=(("get", 0), ("call", "Low", "go"), ("give",))),)),
        kind("Low", "Mid", ("Goer",)), face("Goer", (("go", (), "num"),)),
    ])

    def test_a_way_is_looked_at_in_the_body_that_stands_lowest(self):
        self.assertIsNone(road_of(self.OWN, "Top", "go"))
        self.assertEqual(paper_of(self.OWN, "Top", "go"), [])
        # In Mid box 0 is known to fit Mid, not Low, also where it is asked of Low.
        for name in ("Mid", "Low"):
            self.assertEqual(road_of(self.OWN, name, "go"), [0, 1])
            self.assertIsNone(paper_of(self.OWN, name, "go"))
        for name in ("Top", "Mid", "Low"):
            self.assertEqual(road_of(self.OWN, name, "bad"), [0, 1, 2])

    def test_refusals(self):
        for act in (paper_of, road_of):
            for name in ("Goer", "Nobody", "", "num"):
                for one in ("go", "none", ""):
                    self.assertEqual(refusal(act, self.OWN, name, one), (NoUnit, name))
            for one in ("none", "", "Go", "g"):
                self.assertEqual(refusal(act, self.OWN, "Low", one), (NoWay, "Low", one))


class Holds(unittest.TestCase):

    def both(self, there, stand, road):
        told = road_holds(HOUSE, there, stand, list(road))
        self.assertIs(told, road_holds_by_rules(Body(HOUSE, there), stand, list(road)), road)
        return told

    def test_told_roads_with_a_row_otherwise(self):
        for name, (there, _) in WRONG.items():
            stand = beginning(HOUSE, there)
            road = road_from(HOUSE, there, stand)
            many = len(there[1][3])
            for at in range(len(road)):
                self.both(there, stand, road[:at] + road[at + 1:])
                self.assertFalse(self.both(there, stand, road[:at]), name)
                for row in list(range(-2, many + 3)) + [10 ** 30, -10 ** 30]:
                    told = self.both(there, stand, road[:at] + [row] + road[at + 1:])
                    self.assertTrue(told or row != road[at])
                    self.both(there, stand, road[:at] + [row] + road[at:])
            for row in range(-1, many + 2):
                self.assertFalse(self.both(there, stand, road + [row]), name)

    def test_the_empty_list(self):
        for name, (there, _) in WRONG.items():
            self.assertIs(road_holds(HOUSE, there, beginning(HOUSE, there), []), False)
        self.assertIs(road_holds(HOUSE, body(("ask",)), (1, ANYS, ()), []), False)
        self.assertIs(road_holds(HOUSE, body(("ask",)), (1, ANYS, ()), [1]), True)

    def test_a_road_that_begins_elsewhere(self):
        there = body(("ask",), ("drop",), ("drop",))
        self.assertIs(road_holds(HOUSE, there, beginning(HOUSE, there), [0, 1, 2]), True)
        self.assertIs(road_holds(HOUSE, there, beginning(HOUSE, there), [1, 2]), False)
        self.assertIs(road_holds(HOUSE, there, (1, ANYS, ("num",)), [1, 2]), True)
        self.assertIs(road_holds(HOUSE, there, (2, ANYS, ()), [2]), True)

    def test_roads_around_a_loop(self):
        there = body(("get", 1), ("say",), ("ask",), ("nought", 0), ("drop",), entries=((0, 0),), takes=("num",))
        stand = beginning(HOUSE, there)
        for times in range(6):
            self.assertIs(self.both(there, stand, [0, 1, 2, 3] * times + [0, 1, 2, 3, 4]), True)
        self.assertIs(self.both(there, stand, [0, 1, 2, 3] * 3), False)
        self.assertIs(self.both(there, stand, [0, 1, 2, 3, 0, 4]), False)

    def test_a_last_row_that_does_not_go_wrong(self):
        there = RIGHT["a loop"]
        stand = beginning(HOUSE, there)
        for road in ([0], [0, 1], [0, 1, 8, 9], [0, 1, 2, 3, 4, 5, 6, 0], [0, 1, 8, 9, 10]):
            self.assertIs(self.both(there, stand, road), False)

    def test_nothing_comes_behind_what_goes_wrong(self):
        there = body(("drop",), ("drop",))
        stand = beginning(HOUSE, there)
        self.assertIs(self.both(there, stand, [0]), True)
        self.assertIs(self.both(there, stand, [0, 1]), False)
        self.assertIs(self.both(there, (0, ANYS, ("any",)), [0, 1]), True)
        self.assertIs(self.both(there, (0, ANYS, ("any",)), [0]), False)

    def test_one_row_on_two_roads(self):
        # By its deed and by its catch the part leads to row 3, with more or less on the stack.
        there = body(("get", 1), ("num", 1), ("num", 0), ("part",), ("drop",), ("drop",), ("ask",), ("give",),
                     entries=((4, 1),), catches=((3, 4, 4),), takes=("num",))
        stand = beginning(HOUSE, there)
        self.assertIs(self.both(there, stand, [0, 1, 2, 3, 4]), True)
        self.assertIs(self.both(there, stand, [0, 1, 2, 3, 4, 5]), True)
        self.assertIs(self.both(there, stand, [0, 1, 2, 3, 4, 5, 6]), False)
        # Likewise with a thing or a number on it.
        call = body(("get", 0), ("new", "Other"), ("say",), ("give",), entries=((2, 1),), catches=((1, 2, 2),))
        self.assertIs(self.both(call, (1, ANYS, ()), [1, 2]), True)
        self.assertIs(self.both(call, (1, ANYS, ()), [1, 2, 3]), True)

    def test_a_way_that_has_a_paper_has_no_road(self):
        for there in RIGHT.values():
            stand = beginning(HOUSE, there)
            many = len(there[1][3])
            roads = [[]]
            for _ in range(3):
                roads = [road + [row] for road in roads for row in range(many + 1)]
                self.assertFalse(any(road_holds(HOUSE, there, stand, road) for road in roads))


if __name__ == "__main__":
    unittest.main()
