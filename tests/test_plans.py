"""[36] to [39]: told plans."""

import unittest

from look_rules import Body
from plan_rules import plan_holds_by_rules
from refusals import refusal
from run_samples import house_of
from samples import face, kind, way
from strangemill.errors import NoUnit, NoWay
from strangemill.house import House
from strangemill.look import paper_of
from strangemill.planlook import plan_holds
from strangemill.plans import plan_of
from way_chance import Houses, bodies_of

OTHERS = (kind("Base", fields=(("many", "num"), ("next", "Base")), ways=(way("name", ("num",), "num"),)), kind("Empty"))

# Houses with a way `go` of Main that is let by.
WAYS = {
    "a give": house_of(("num", 1), ("give",)),
    "a throw": house_of(("ask",), ("throw",)),
    "a loop": house_of(
        ("get", 1), ("nought", 11), ("get", 1), ("get", 2), ("plus",), ("put", 2), ("get", 1), ("num", 1), ("minus",), ("put", 1), ("jump", 0),
        ("get", 2), ("give",), entries=((0, 0), (11, 0)), takes=("num", "num")),
    "an entry that is fallen into": house_of(("ask",), ("twin",), ("plus",), ("give",), entries=((1, 1), (2, 2))),
    "an entry that is not come to": house_of(("ask",), ("jump", 4), ("ask",), ("give",), ("give",), entries=((2, 0), (4, 1))),
    "a catch": house_of(("ask",), ("ask",), ("part",), ("give",), ("get", 1), ("plus",), ("give",), entries=((4, 1),),
                        catches=((0, 4, 4),), takes=("num",)),
    "a catch that catches itself": house_of(("ask",), ("throw",), entries=((1, 1),), catches=((1, 2, 1),)),
    "open noughts": house_of(("get", 1), ("nought", 6), ("get", 2), ("nought", 6), ("num", 1), ("give",), ("num", 2), ("give",),
                             entries=((6, 0),), takes=("num", "num")),
    "a nought to the row behind": house_of(("get", 1), ("nought", 2), ("num", 2), ("give",), entries=((2, 0),), takes=("num",)),
    "a nought that is gone by": house_of(("num", 3), ("num", 4), ("minus",), ("nought", 6), ("num", 2), ("give",), ("num", 5), ("give",),
                                         entries=((6, 0),)),
    "a nought of 0": house_of(("num", 4), ("num", 4), ("minus",), ("nought", 6), ("num", 2), ("give",), ("num", 5), ("give",),
                              entries=((6, 0),)),
    "calls with values beneath": house_of(
        ("num", 5), ("get", 1), ("get", 0), ("get", 2), ("call", "Main", "less"), ("plus",), ("plus",), ("get", 3), ("plus",), ("give",),
        takes=("num", "num", "num"), ways=(way("less", ("num",), "num", (("get", 1), ("give",))),)),
    "things": house_of(
        ("num", 1), ("get", 1), ("new", "Base"), ("twin",), ("put", 3), ("fits", "Base"), ("say",), ("get", 3), ("get", 3),
        ("write", "Base", "next"), ("get", 3), ("read", "Base", "next"), ("get", 3), ("same",), ("give",), takes=("Base",), others=OTHERS),
    "sixteen places": house_of(
        *[("ask",)] * 8, ("turn",), ("plus",), ("get", 1), *[("drop",)] * 8, *[row for at in range(8) for row in (("get", at), ("drop",))],
        ("jump", 0), takes=("num",) * 6, entries=((0, 0), (8, 8), (11, 8), (14, 5))),
    "no way on": house_of(("jump", 0), entries=((0, 0),)),
}


def rows_of_block(rules, entry):
    """How many rows the block of an entry has."""
    heights = dict(rules.entries)
    at = entry
    while rules.rows[at][0] not in ("jump", "give", "throw") and at + 1 not in heights:
        at += 1
    return at + 1 - entry


class Told(unittest.TestCase):

    def right(self, house, kind_name, name):
        plan = plan_of(house, kind_name, name)
        self.assertIs(plan_holds(house, kind_name, name, plan), True)
        self.assertTrue(plan_holds_by_rules(house, kind_name, name, plan))
        rules = Body(house, house.body(kind_name, name))
        self.assertEqual([block[0] for block in plan], rules.blocks())
        for entry, pairs, steps in plan:
            self.assertLessEqual(len(steps), rows_of_block(rules, entry) + 1)
            self.assertIs(type(pairs), list)
            self.assertIs(type(steps), list)
        return plan

    def test_of_ways_that_are_let_by(self):
        for name, house in WAYS.items():
            with self.subTest(name):
                self.right(house, "Main", "go")

    def test_of_ways_that_are_not(self):
        house = house_of(("drop",), ("num", 1), ("give",))
        self.assertIsNone(plan_of(house, "Main", "go"))
        self.assertIs(plan_holds(house, "Main", "go", []), False)

    def test_of_ways_from_above(self):
        house = House([kind("Top", ways=(way("go"),)), kind("Mid", "Top", (), (), (way("go", rows=(("num", 2), ("give",))),)), kind("Low", "Mid")])
        self.assertEqual(plan_of(house, "Top", "go"), [(0, [], [("give", ("num", 1))])])
        self.assertEqual(plan_of(house, "Mid", "go"), [(0, [], [("give", ("num", 2))])])
        self.assertEqual(plan_of(house, "Low", "go"), [(0, [], [("give", ("num", 2))])])

    def test_ways_by_chance(self):
        many = 0
        for seed in range(120):
            house = Houses(seed, rash=0.01, most_rows=(12, 36)[seed % 2]).house()
            for kind_name, one in bodies_of(house):
                if paper_of(house, kind_name, one[0]) is None:
                    self.assertIsNone(plan_of(house, kind_name, one[0]))
                else:
                    self.right(house, kind_name, one[0])
                    many += 1
        self.assertGreater(many, 300)

    def test_the_lists_are_the_askers_own(self):
        for house in WAYS.values():
            plan = plan_of(house, "Main", "go")
            held = repr(plan)
            lists = []
            todo = [plan]
            while todo:
                one = todo.pop()
                if isinstance(one, list):
                    lists.append(one)
                if isinstance(one, (list, tuple)):
                    todo += one
            self.assertEqual(len({id(one) for one in lists}), len(lists))
            for one in lists:
                one.clear()
            self.assertEqual(repr(plan_of(house, "Main", "go")), held)

    def test_refusals(self):
        house = House([kind("Top", ways=(way("go"),)), face("Goer", (("go", (), "num"),))])
        for name in ("Goer", "Nobody", "", "num"):
            for one in ("go", "none"):
                self.assertEqual(refusal(plan_of, house, name, one), (NoUnit, name))
                self.assertEqual(refusal(plan_holds, house, name, one, [("nothing",)]), (NoUnit, name))
        for one in ("none", "", "Go"):
            self.assertEqual(refusal(plan_of, house, "Top", one), (NoWay, "Top", one))
            self.assertEqual(refusal(plan_holds, house, "Top", one, []), (NoWay, "Top", one))


if __name__ == "__main__":
    unittest.main()
