"""[25], [26]: papers, told ones and any list of stands."""

import unittest

from look_rules import Body, paper_by_rules, paper_holds_by_rules
from samples import face, kind, way
from strangemill.house import House
from strangemill.look import beginning, paper_from, paper_of, road_from
from strangemill.lookers import paper_holds

PLAY = ("play", (), "num")
HOUSE = House([
    kind("Base", fields=(("many", "num"),), ways=(way(*PLAY),)),
    kind("Left", "Base", ("Player",)), kind("Right", "Base", ("Player", "Other")), kind("Apart", "", ("Player",), (), (way(*PLAY),)),
    face("Player", (PLAY,)), face("Other", (PLAY,)),
])
BASE, LEFT, RIGHT = ("Base",), ("Base", "Left", "Player"), ("Base", "Other", "Player", "Right")
APART = ("Apart", "Player")
ANYS = ("any",) * 8


def body(*rows, entries=(), catches=(), gives="num", takes=(), holder="Base"):
    return (holder, ("way", takes, gives, rows, entries, catches))


def boxes(*marks):
    return marks + ("any",) * (8 - len(marks))


# A body, and its told paper from its beginning.
TOLD = {
    "no entries": (body(("ask",), ("give",)), []),
    "an entry at row 0": (body(("jump", 0), entries=((0, 0),)), [(0, boxes(BASE), ())]),
    "an entry that is fallen into": (body(("ask",), ("give",), entries=((1, 1),)), [(1, boxes(BASE), ("num",))]),
    "a loop": (
        body(("get", 1), ("nought", 8), ("get", 1), ("num", 1), ("minus",), ("put", 1), ("jump", 0), ("ask",), ("ask",),
             ("give",), entries=((0, 0), (8, 0)), takes=("num",)),
        [(0, boxes(BASE, "num"), ()), (8, boxes(BASE, "num"), ())]),
    "a loop in which less and less is known": (
        body(("get", 2), ("put", 1), ("get", 3), ("put", 2), ("ask",), ("nought", 0), ("ask",), ("give",), entries=((0, 0),),
             takes=("Left", "Right")),
        [(0, boxes(BASE, "any", "any"), ())]),
    "names in common": (
        body(("new", "Left"), ("ask",), ("nought", 6), ("drop",), ("num", 1), ("new", "Right"), ("call", "Base", "play"),
             ("give",), entries=((6, 1),)), None),
    "an entry that is not come to": (
        body(("ask",), ("give",), ("drop",), ("ask",), ("give",), entries=((2, 1), (4, 1))), []),
    "a jump over an entry": (
        body(("jump", 3), ("ask",), ("drop",), ("ask",), ("give",), entries=((1, 0), (3, 0), (4, 1))),
        [(3, boxes(BASE), ()), (4, boxes(BASE), ("num",))]),
    "a catch": (
        body(("ask",), ("ask",), ("part",), ("give",), ("give",), entries=((4, 1),), catches=((0, 3, 4),)),
        [(4, boxes(BASE), ("num",))]),
    "a catch that has the boxes ahead of the row": (
        body(("get", 0), ("put", 1), ("get", 1), ("call", "Base", "play"), ("put", 1), ("get", 1), ("throw",), ("give",),
             entries=((7, 1),), catches=((0, 7, 7),)),
        [(7, boxes(BASE, "any"), ("num",))]),
    "a catch that catches itself": (
        body(("ask",), ("throw",), entries=((1, 1),), catches=((1, 2, 1),)), [(1, boxes(BASE), ("num",))]),
    "eight on the stack": (
        body(*[("num", 1)] * 8, ("drop",), ("give",), entries=((8, 8), (9, 7))),
        [(8, boxes(BASE), ("num",) * 8), (9, boxes(BASE), ("num",) * 7)]),
}


class Least(unittest.TestCase):

    def test_told_papers(self):
        for name, (there, told) in TOLD.items():
            if told is not None:
                with self.subTest(name):
                    self.assertEqual(paper_from(HOUSE, there, beginning(HOUSE, there)), told)

    def test_they_hold_and_are_those_of_the_rules(self):
        for name, (there, _) in TOLD.items():
            with self.subTest(name):
                stand = beginning(HOUSE, there)
                rules = Body(HOUSE, there)
                told = paper_from(HOUSE, there, stand)
                self.assertEqual(told, paper_by_rules(rules, rules.reached(stand, 5000)))
                if told is None:
                    self.assertIsNotNone(road_from(HOUSE, there, stand))
                else:
                    self.assertIs(paper_holds(HOUSE, there, stand, told), True)
                    self.assertIsNone(road_from(HOUSE, there, stand))

    def joined(self, first, second, told):
        """An entry to which one comes with one mark in box 1, and with another one."""
        there = body(("ask",), ("nought", 4), ("get", 2), ("put", 1), ("ask",), ("give",), entries=((4, 0),))
        stand = (0, ("any", first, second) + ANYS[3:], ())
        self.assertEqual(paper_from(HOUSE, there, stand), [(4, ("any", told, second) + ANYS[3:], ())])

    def test_what_marks_have_in_common(self):
        for first, second, told in (
            ("num", "num", "num"), ("num", "any", "any"), ("any", "num", "any"), ("any", BASE, "any"), ("num", (), "any"),
            (LEFT, LEFT, LEFT), (LEFT, RIGHT, ("Base", "Player")), (LEFT, BASE, BASE), (APART, LEFT, ("Player",)),
            (APART, BASE, ()), ((), LEFT, ()), (("Nobody", "Player"), APART, ("Player",)), (("Zebra",), ("Zebra",), ("Zebra",)),
        ):
            with self.subTest(first=first, second=second):
                self.joined(first, second, told)
                there = body(("ask",), ("nought", 4), ("get", 2), ("put", 1), ("ask",), ("give",), entries=((4, 0),))
                self.assertIsNone(road_from(HOUSE, there, (0, ("any", first, second) + ANYS[3:], ())))

    def test_names_in_common_are_enough_where_no_more_is_wanted(self):
        def there(kind_name, way_name, word):
            rows = (("get", 1), ("ask",), ("nought", 5), ("drop",), ("get", 2), (word, kind_name, way_name), ("give",))
            return body(*rows, entries=((5, 1),), takes=("Left", "Right"))

        stand = beginning(HOUSE, there("Base", "play", "call"))
        for told in (there("Base", "play", "call"), there("Player", "play", "hail")):
            self.assertEqual(paper_from(HOUSE, told, stand), [(5, boxes(BASE, LEFT, RIGHT), (("Base", "Player"),))])
        for told in (there("Left", "play", "call"), there("Right", "play", "call"), there("Other", "play", "hail")):
            self.assertIsNone(paper_from(HOUSE, told, stand))
            self.assertIsNotNone(road_from(HOUSE, told, stand))

    def test_an_entry_that_is_come_to_on_several_ways(self):
        there = body(("ask",), ("nought", 6), ("ask",), ("nought", 6), ("num", 3), ("put", 1), ("ask",), ("give",),
                     entries=((6, 0),), takes=("Left",))
        self.assertEqual(paper_from(HOUSE, there, beginning(HOUSE, there)), [(6, boxes(BASE, "any"), ())])

    def test_paper_of(self):
        house = House([kind("A", ways=(way("go", rows=(("get", 0), ("drop",), ("jump", 0)), entries=((0, 0),)),)), kind("B", "A")])
        for name in ("A", "B"):
            self.assertEqual(paper_of(house, name, "go"), [(0, boxes(("A",)), ())])

    def test_the_list_is_the_askers_own_and_the_same_each_time(self):
        there, told = TOLD["a loop"]
        paper_from(HOUSE, there, beginning(HOUSE, there)).clear()
        self.assertEqual(paper_from(HOUSE, there, beginning(HOUSE, there)), told)


class FromElsewhere(unittest.TestCase):

    def test_from_stands_other_than_the_beginning(self):
        loop = TOLD["a loop"][0]
        for stand, told in (
            ((8, ANYS, ()), [(8, ANYS, ())]),
            ((9, ANYS, ("any", "num")), []),
            ((0, boxes("any", "num"), ()), [(0, boxes("any", "num"), ()), (8, boxes("any", "num"), ())]),
            ((4, boxes((), ()), ("num", "num")), [(0, boxes((), "num"), ()), (8, boxes((), "num"), ())]),
            ((10, ANYS, ("num",)), None), ((0, ANYS, ()), None), ((0, boxes("any", "num"), ("num",)), None), ((8, ANYS, ("num",)), None),
            ((6, boxes("any", "num"), ("num",)), None),
        ):
            with self.subTest(stand):
                self.assertEqual(paper_from(HOUSE, loop, stand), told)
                self.assertEqual(road_from(HOUSE, loop, stand) is None, told is not None)
                for paper in ([], [(8, ANYS, ())], told or []):
                    self.assertIs(paper_holds(HOUSE, loop, stand, paper), paper_holds_by_rules(Body(HOUSE, loop), stand, paper))

    def test_the_stand_itself_counts_at_its_entry(self):
        there = body(("ask",), ("put", 1), ("jump", 0), entries=((0, 0),))
        stand = (0, boxes("any", BASE), ())
        self.assertEqual(paper_from(HOUSE, there, stand), [(0, ANYS, ())])
        self.assertEqual(paper_from(HOUSE, there, (0, boxes("num", "num"), ())), [(0, boxes("num", "num"), ())])
        self.assertIs(paper_holds(HOUSE, there, stand, [(0, boxes("any", "num"), ())]), False)


class Holds(unittest.TestCase):

    LOOP = TOLD["a loop"][0]
    PAPER = TOLD["a loop"][1]

    def holds(self, paper, there=None, stand=None):
        there = there or self.LOOP
        stand = stand or beginning(HOUSE, there)
        told = paper_holds(HOUSE, there, stand, paper)
        self.assertIs(told, paper_holds_by_rules(Body(HOUSE, there), stand, paper), paper)
        return told

    def test_wider_and_narrower_marks(self):
        first, last = self.PAPER
        for marks, told in (
            (boxes(BASE, "num"), True), (boxes("any", "num"), True), (boxes((), "num"), True),
            (boxes(LEFT, "num"), False), (boxes("num", "num"), False), (boxes(("Apart",), "num"), False),
            (boxes(BASE, "any"), False), (boxes(BASE, ()), False), (boxes(BASE, "num", "num"), False),
        ):
            self.assertIs(self.holds([(0, marks, ()), (8, ("any",) * 8, ())]), told, marks)
        # What the first entry is told to have goes on to the last one.
        self.assertIs(self.holds([first, (8, boxes("any", "num"), ())]), True)
        self.assertIs(self.holds([(0, boxes("any", "num"), ()), last]), False)

    def test_a_stand_more_less_twice_or_out_of_order(self):
        first, last = self.PAPER
        for paper in ([first], [last], [], [last, first], [first, first, last], [first, last, last]):
            self.assertIs(self.holds(paper), False, paper)
        for row in (-1, -8, 1, 7, 9, 10, 11, 10 ** 30):
            for at in range(3):
                self.assertIs(self.holds(self.PAPER[:at] + [(row, ANYS, ())] + self.PAPER[at:]), False, row)
                self.assertIs(self.holds(self.PAPER[:at] + [(row, boxes(BASE, "num"), ())] + self.PAPER[at + 1:]), False, row)

    def test_entries_that_nobody_comes_to_may_stand_in_it_where_nothing_goes_wrong_from_them(self):
        there = body(("ask",), ("give",), ("say",), ("ask",), ("give",), entries=((2, 1), (4, 1)))
        for paper, told in (
            ([], True), ([(2, ANYS, ("num",))], False), ([(4, ANYS, ("num",))], True), ([(4, ANYS, ("any",))], False),
            ([(2, ANYS, ("num",)), (4, ANYS, ("num",))], True), ([(2, ANYS, ("any",)), (4, ANYS, ("num",))], False),
            ([(2, ANYS, ("num",)), (4, boxes(BASE), ("num",))], False), ([(2, boxes(BASE), ("num",)), (4, boxes(BASE), ("num",))], True),
        ):
            self.assertIs(self.holds(paper, there), told, paper)

    def test_boxes_and_stacks_of_other_lengths(self):
        first, last = self.PAPER
        for marks in ((), ("any",), ANYS[:7], ANYS + ("any",), boxes(BASE, "num") + ("any",)):
            self.assertIs(self.holds([first, (8, marks, ())]), False)
            self.assertIs(self.holds([(0, marks, ()), last]), False)
        for stack in (("any",), ("num",), ("any",) * 9, ("any",) * 40):
            self.assertIs(self.holds([first, (8, ANYS, stack)]), False)
            self.assertIs(self.holds([(0, boxes(BASE, "num"), stack), last]), False)
        caught = TOLD["a catch"][0]
        for stack in ((), ("num", "num")):
            self.assertIs(self.holds([(4, ANYS, stack)], caught), False)
        self.assertIs(self.holds([(4, ANYS, ("num",))], caught), True)

    def test_marks_that_are_no_marks(self):
        first, last = self.PAPER
        for mark in (
            "", "Any", "none", "Base", "thing", " any", "any ", "nums",
            ("Base", "Apart"), ("Base", "Base"), ("base",), ("num",), ("",), ("any",), ("Base", ""), ("Ba se",), ("B" * 13,), ("B\u00e9",),
        ):
            self.assertIs(self.holds([first, (8, boxes(mark, "any"), ())]), False, mark)
            self.assertIs(self.holds([(0, boxes(BASE, "num", mark), ()), last]), False, mark)
            # Also where all else would do: at an entry that nobody comes to.
            there = body(("ask",), ("give",), ("say",), ("ask",), ("give",), entries=((2, 1), (4, 1)))
            self.assertIs(self.holds([(4, boxes("num", "any", ()), ("num",))], there), True)
            self.assertIs(self.holds([(4, boxes("num", "any", mark), ("num",))], there), False, mark)
        caught = TOLD["a catch"][0]
        self.assertIs(self.holds([(4, ANYS, ("Num",))], caught), False)
        # Names of no unit are names, too, but here they are more than is known.
        self.assertIs(self.holds([first, (8, boxes(("Zebra",), "any"), ())]), False)
        self.assertIs(self.holds([(8, boxes(("Zebra",)), ())], None, (8, boxes(("Yak", "Zebra")), ())), True)

    def test_papers_of_ways_that_have_none(self):
        there = body(("get", 1), ("say",), ("get", 0), ("put", 1), ("jump", 0), entries=((0, 0),), takes=("num",))
        for mark in ("num", "any", BASE, ()):
            self.assertIs(self.holds([(0, boxes(BASE, mark), ())], there), False)
        self.assertIs(self.holds([], there), False)
        self.assertIs(self.holds([], body(("drop",))), False)

    def test_from_another_entry_height(self):
        self.assertIs(self.holds([(8, ANYS, ())], None, (8, ANYS, ())), True)
        self.assertIs(self.holds([(8, ANYS, ())], None, (8, ANYS, ("num",))), False)
        self.assertIs(self.holds([(8, ANYS, ("num",))], None, (8, ANYS, ("num",))), False)
        self.assertIs(self.holds([], None, (8, ANYS, ())), False)
        self.assertIs(self.holds([], None, (10, ANYS, ())), False)

    def test_papers_are_left_as_they_are(self):
        paper = list(self.PAPER)
        paper_holds(HOUSE, self.LOOP, beginning(HOUSE, self.LOOP), paper)
        self.assertEqual(paper, self.PAPER)


if __name__ == "__main__":
    unittest.main()
