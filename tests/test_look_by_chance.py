"""[20] to [26] by chance: ways and stands, against the rules told once more."""

import unittest

from look_rules import Body, paper_by_rules, paper_holds_by_rules, road_holds_by_rules
from strangemill.look import beginning, leads, paper_from, road_from, wrong
from strangemill.lookers import paper_holds, road_holds
from way_chance import Houses, bodies_of

MARKS = ("num", "any", (), ("A",), ("A", "F"), ("B",), ("Zebra",))
NO_MARKS = ("", ("F", "A"), ("A", "A"), ("a",))


class Look(unittest.TestCase):

    def each(self, first, last):
        """Bodies, with the rules of each, and a stand to begin with."""
        for seed in range(first, last):
            houses = Houses(seed, rash=(0, 0.02, 0.3)[seed % 3])
            house = houses.house()
            for body in bodies_of(house):
                rules = Body(house, body)
                self.assertEqual(beginning(house, body), rules.beginning())
                yield houses, house, body, rules, beginning(house, body)
                yield houses, house, body, rules, self.any_stand(houses, body)

    def any_stand(self, houses, body):
        row = houses.random.randint(0, len(body[1][3]))
        height = dict(body[1][4]).get(row, houses.random.randint(0, 8))
        if houses.chance(0.1):
            height = houses.random.randint(0, 8)
        marks = tuple(houses.one(MARKS) for _ in range(8 + height))
        return (row, marks[:8], marks[8:])

    def test_what_goes_wrong_and_where_stands_lead(self):
        for _, house, body, rules, stand in self.each(0, 60):
            for one in list(rules.reached(stand, 10 ** 6))[:60]:
                self.assertEqual(wrong(house, body, one), rules.wrong(one))
                self.assertEqual(leads(house, body, one), rules.leads(one))

    def test_papers_and_roads(self):
        counts = [0, 0]
        for houses, house, body, rules, stand in self.each(100, 260):
            found = rules.reached(stand, 3000)
            if found is None:
                continue
            paper, road = paper_from(house, body, stand), road_from(house, body, stand)
            self.assertEqual(paper, paper_by_rules(rules, found))
            self.assertNotEqual(paper is None, road is None)
            counts[paper is None] += 1
            if paper is None:
                self.assertEqual(len(road), min(len(told) for one, told in found.items() if rules.wrong(one)))
                self.assertIs(road_holds(house, body, stand, road), True)
                self.other_roads(houses, house, body, rules, stand, road)
            else:
                self.assertIs(paper_holds(house, body, stand, paper), True)
            told = paper or [one for one in sorted(found, key=repr) if one[0] in dict(body[1][4])][:3]
            self.other_papers(houses, house, body, rules, stand, told)
        self.assertTrue(min(counts) > 300, counts)

    def other_roads(self, houses, house, body, rules, stand, road):
        many = len(body[1][3])
        for _ in range(3):
            at, row = houses.random.randint(0, len(road)), houses.random.randint(-1, many + 1)
            other = houses.one((road[:at] + road[at + 1:], road[:at] + [row] + road[at:], road[:at] + [row] + road[at + 1:], road[:at]))
            told = road_holds(house, body, stand, other)
            self.assertIs(told, road_holds_by_rules(rules, stand, other))

    def other_papers(self, houses, house, body, rules, stand, paper):
        for _ in range(3):
            other = list(paper)
            at = houses.random.randint(0, len(other))
            if at < len(other):
                row, boxes, stack = other[at]
                marks = list(boxes + stack)
                place = houses.random.randrange(len(marks))
                held = marks[place]
                near = (held[1:], held[:-1], held + ("Zed",)) if isinstance(held, tuple) else MARKS
                marks[place] = houses.one(MARKS + NO_MARKS + near * 3)
                other[at] = houses.one(((row, tuple(marks[:8]), tuple(marks[8:])), (row + 1, boxes, stack), (row, boxes, stack + ("any",))))
                if houses.chance(0.2):
                    other.insert(at, paper[at])
            told = paper_holds(house, body, stand, other)
            self.assertIs(told, paper_holds_by_rules(rules, stand, other))


if __name__ == "__main__":
    unittest.main()
