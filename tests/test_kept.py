"""[28], [32] to [34]: frames, boxes that are live, and things that are kept."""

import unittest

from look_rules import Body
from refusals import refusal
from run_samples import MACHINES, house_of
from samples import kind, way
from strangemill.errors import NoThing
from strangemill.house import House
from strangemill.runs import Run
from strangemill.sheets import Sheet
from way_chance import Houses, bodies_of

PAIR = kind("Pair", "Thing", (), (("left", "Thing"), ("right", "Thing")))
OTHERS = (kind("Thing"), PAIR)


def at_ask(*rows, numbers=(), asks=1, answers=(), **parts):
    """The runs of a way of these rows, one on each machine, at the ask of that number; all tell the same there."""
    house = house_of(*rows, takes=("num",) * len(numbers), others=OTHERS, **parts)
    runs = [Run(house, "Main", "go", numbers, machine=machine) for machine in MACHINES]
    for run in runs:
        run.go()
        for number in answers:
            run.answer(number)
        assert run.go() == ("ask",)
    assert runs[0].frames() == runs[1].frames() == runs[2].frames()
    assert runs[0].kept() == runs[1].kept() == runs[2].kept()
    return runs


def boxes(**told):
    """Eight boxes, of which those that are live are told."""
    return tuple(told.get(f"b{at}", "-") for at in range(8))


class Live(unittest.TestCase):

    def told(self, wanted, *rows, **parts):
        for run in at_ask(*rows, **parts):
            self.assertEqual(run.frames()[-1][4], boxes(**wanted))

    def test_a_get_that_comes(self):
        self.told({"b1": 4}, ("ask",), ("get", 1), ("give",), numbers=(4, 5))
        self.told({"b2": 5}, ("get", 1), ("drop",), ("ask",), ("get", 2), ("give",), numbers=(4, 5))
        self.told({}, ("get", 1), ("ask",), ("give",), numbers=(4, 5))

    def test_nothing_in_a_box(self):
        self.told({"b6": None}, ("ask",), ("get", 6), ("drop",), ("give",))

    def test_a_put_ahead_of_the_get(self):
        self.told({}, ("ask",), ("put", 1), ("get", 1), ("give",), numbers=(4,))
        self.told({"b1": 4}, ("ask",), ("get", 1), ("plus",), ("put", 1), ("get", 1), ("give",), numbers=(4,))
        self.told({"b1": 4}, ("ask",), ("nought", 4), ("num", 3), ("put", 1), ("get", 1), ("give",), entries=((4, 0),), numbers=(4,))

    def test_by_jumps_and_noughts(self):
        self.told({"b1": 4}, ("ask",), ("jump", 4), ("put", 1), ("num", 3), ("get", 1), ("plus",), ("give",), entries=((4, 1),), numbers=(4,))
        self.told({}, ("ask",), ("jump", 3), ("get", 1), ("give",), ("get", 1), ("give",), entries=((3, 1),), numbers=(4,))
        # Rows alone are looked at: a number that is never 0 leads on to both.
        self.told({"b1": 4}, ("ask",), ("num", 7), ("nought", 4), ("give",), ("drop",), ("get", 1), ("give",), entries=((4, 1),),
                  numbers=(4,))

    def test_around_a_loop(self):
        self.told({"b1": 4}, ("get", 1), ("ask",), ("plus",), ("drop",), ("jump", 0), entries=((0, 0),), numbers=(4,))
        self.told({}, ("num", 5), ("put", 1), ("get", 1), ("ask",), ("plus",), ("drop",), ("jump", 0), entries=((0, 0),), numbers=(4,))

    def test_by_a_catch(self):
        rows = (("ask",), ("num", 0), ("part",), ("give",), ("get", 1), ("plus",), ("give",))
        self.told({"b1": 4}, *rows, entries=((4, 1),), catches=((2, 3, 4),), numbers=(4,))
        self.told({}, *rows, entries=((4, 1),), catches=((0, 2, 4),), numbers=(4,))
        # Of a row that may not fault a catch is none.
        rows = (("ask",), ("num", 0), ("plus",), ("give",), ("get", 1), ("plus",), ("give",))
        self.told({}, *rows, entries=((4, 1),), catches=((0, 4, 4),), numbers=(4,))

    def test_nothing_comes_behind_a_give_or_throw(self):
        self.told({}, ("ask",), ("give",), ("get", 1), ("give",), numbers=(4,))
        self.told({}, ("ask",), ("throw",), ("get", 1), ("give",), numbers=(4,))

    def test_a_frame_that_waits_has_the_boxes_live_that_come_behind(self):
        one = way("one", ("num",), "num", (("ask",), ("get", 1), ("plus",), ("give",)))
        rows = (("get", 0), ("get", 1), ("call", "Main", "one"), ("put", 1), ("get", 1), ("get", 2), ("plus",), ("give",), ("get", 3), ("plus",),
                ("give",))
        for catches, wanted in (((), {"b2": 6}), (((2, 3, 8),), {"b2": 6, "b3": 7})):
            for run in at_ask(*rows, ways=(one,), entries=((8, 1),), catches=catches, numbers=(5, 6, 7)):
                first, second = run.frames()
                self.assertEqual(first, ("Main", "go", 0, 2, boxes(**wanted), ()))
                self.assertEqual(second, ("Main", "one", 0, 0, boxes(b1=5), ()))

    def test_against_the_rules_by_chance(self):
        for seed in range(60):
            house = Houses(seed, rash=0.1).house()
            for body in bodies_of(house):
                sheet, rules = Sheet(house, body), Body(house, body)
                for row in range(len(body[1][3]) + 1):
                    self.assertEqual(list(sheet.live(row)), rules.live(row))


class Frames(unittest.TestCase):

    def test_frames_that_stand_on_one_another(self):
        others = (kind("Base", ways=(way("one", ("num",), "num", (("num", 8), ("get", 1), ("ask",), ("plus",), ("plus",), ("give",))),)),
                  kind("Sub", "Base"))
        house = House([kind("Main", ways=(way("go", ("num",), "num", (
            ("num", 1), ("num", 2), ("new", "Sub"), ("num", 3), ("call", "Sub", "one"), ("plus",), ("plus",), ("get", 1), ("plus",), ("give",))),)),
            *others])
        for machine in MACHINES:
            run = Run(house, "Main", "go", (9,), machine=machine)
            self.assertEqual(run.frames(), [("Main", "go", 0, 0, boxes(b1=9), ())])
            self.assertEqual(run.go(), ("ask",))
            # The kind is that of the body; what the call took is gone from the stack.
            self.assertEqual(run.frames(), [("Main", "go", 0, 4, boxes(b1=9), (1, 2)), ("Base", "one", 0, 2, boxes(), (8, 3))])
            self.assertEqual(run.kept(), [])
            self.assertEqual(run.answer(10), ("gave", 8 + 3 + 10 + 2 + 1 + 9))
            self.assertEqual((run.frames(), run.kept()), ([], []))

    def test_things_in_frames(self):
        for run in at_ask(("get", 0), ("new", "Thing"), ("put", 3), ("get", 3), ("ask",), ("drop",), ("drop",), ("get", 3), ("drop",), ("give",),
                          gives="Main"):
            self.assertEqual(run.frames(), [("Main", "go", 0, 4, boxes(b3=("thing", 2)), (("thing", 1), ("thing", 2)))])
            self.assertEqual(run.kept(), [1, 2])
            self.assertEqual(run.answer(0), ("gave", ("thing", 1)))


class Kept(unittest.TestCase):

    MAKE = (("new", "Thing"), ("new", "Thing"), ("new", "Pair"), ("put", 1))

    def test_through_boxes_stacks_and_fields(self):
        rows = self.MAKE + (("get", 1), ("get", 1), ("new", "Pair"), ("put", 2), ("new", "Thing"), ("ask",), ("drop",), ("drop",),
                            ("get", 2), ("drop",), ("num", 0), ("give",))
        for run in at_ask(*rows):
            self.assertEqual((run.kept(), run.made()), ([2, 3, 4, 5, 6], 6))
            self.assertEqual([run.thing(number) for number in run.kept()], [
                ("Thing", ()), ("Thing", ()), ("Pair", (("thing", 2), ("thing", 3))), ("Pair", (("thing", 4), ("thing", 4))), ("Thing", ())])
            run.answer(0)
            self.assertEqual((run.kept(), run.made()), ([], 6))

    def test_a_box_that_is_not_live_keeps_nothing(self):
        rows = self.MAKE + (("ask",), ("put", 1), ("get", 1), ("give",))
        for run in at_ask(*rows):
            self.assertEqual(run.kept(), [])
            for number in (1, 2, 3, 4):
                self.assertEqual(refusal(run.thing, number), (NoThing, number))

    def test_rings(self):
        rows = self.MAKE + (("get", 1), ("get", 1), ("write", "Pair", "left"), ("get", 1), ("get", 0), ("drop",), ("ask",), ("drop",), ("drop",),
                            ("ask",), ("give",))
        for run in at_ask(*rows):
            self.assertEqual(run.kept(), [3, 4])
            self.assertEqual(run.thing(4), ("Pair", (("thing", 4), ("thing", 3))))
            run.answer(1)
            self.assertEqual(run.kept(), [])

    def test_fields_that_are_overwritten_let_go(self):
        rows = self.MAKE + (("get", 1), ("new", "Thing"), ("write", "Pair", "right"), ("get", 1), ("ask",), ("drop",), ("give",))
        for run in at_ask(*rows, gives="Pair"):
            self.assertEqual(run.kept(), [2, 4, 5])
            self.assertEqual(run.thing(4), ("Pair", (("thing", 2), ("thing", 5))))

    def test_behind_the_end_the_thing_that_was_given_and_what_it_leads_to(self):
        rows = self.MAKE + (("new", "Thing"), ("put", 2), ("ask",), ("drop",), ("get", 2), ("drop",), ("get", 1), ("give",))
        for run in at_ask(*rows, gives="Thing"):
            self.assertEqual(run.kept(), [2, 3, 4, 5])
            self.assertEqual(run.answer(0), ("gave", ("thing", 4)))
            self.assertEqual(run.kept(), [2, 3, 4])
            self.assertEqual(run.thing(4), ("Pair", (("thing", 2), ("thing", 3))))
            self.assertEqual(refusal(run.thing, 5), (NoThing, 5))
            self.assertEqual(run.frames(), [])

    def test_behind_other_ends_nothing_is_kept(self):
        for rows in (self.MAKE + (("get", 1), ("ask",), ("throw",)), self.MAKE + (("get", 1), ("ask",), ("give",))):
            for run in at_ask(*rows):
                run.answer(4)
                self.assertEqual((run.kept(), run.frames()), ([], []))
                self.assertIn(run.go(), (("fault", 4), ("gave", 4)))

    def test_a_number_that_is_given_keeps_no_thing_of_that_number(self):
        for run in at_ask(*self.MAKE, ("ask",), ("give",)):
            self.assertEqual(run.answer(2), ("gave", 2))
            self.assertEqual(run.kept(), [])

    def test_no_thing(self):
        for run in at_ask(("get", 0), ("ask",), ("drop",), ("give",), gives="Main"):
            self.assertEqual(run.thing(1), ("Main", ()))
            for number in (0, -1, 2, 10 ** 30):
                self.assertEqual(refusal(run.thing, number), (NoThing, number))
            run.answer(1)
            self.assertEqual(run.thing(1), ("Main", ()))
            self.assertEqual(refusal(run.thing, 2), (NoThing, 2))

    def test_numbers_rise_and_are_never_used_again(self):
        rows = (("new", "Thing"), ("ask",), ("drop",), ("drop",), ("jump", 0))
        for run in at_ask(*rows, entries=((0, 0),)):
            for number in range(2, 9):
                self.assertEqual((run.kept(), run.made()), ([number], number))
                run.answer(0)

    def test_ahead_of_the_first_go(self):
        house = house_of(("ask",), ("get", 0), ("read", "Main", "a"), ("plus",), ("give",), fields=(("a", "num"), ("b", "num")))
        for machine in MACHINES:
            run = Run(house, "Main", "go", machine=machine)
            self.assertEqual((run.kept(), run.thing(1), run.made(), run.events()), ([1], ("Main", (0, 0)), 1, 0))
            self.assertEqual(run.frames(), [("Main", "go", 0, 0, boxes(b0=("thing", 1)), ())])


if __name__ == "__main__":
    unittest.main()
