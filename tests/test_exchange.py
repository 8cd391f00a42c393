"""[41] to [44]: runs that are given another house."""

import unittest

from look_rules import Body, road_holds_by_rules
from refusals import refusal
from run_rules import told_of
from run_samples import MACHINES, run_of
from samples import face, kind, way
from strangemill.errors import BadHouse, NoAsk, NoUnit, Stands, TwoUnits
from strangemill.house import House
from strangemill.look import paper_of
from strangemill.runs import Run

ECHO = (("ask",), ("give",))


def runs_of(house, kind_name="Main", name="go", numbers=(), answers=(), **named):
    """Runs on each machine that stand at an ask."""
    runs = [Run(house, kind_name, name, numbers, machine=machine, **named) for machine in MACHINES]
    for run in runs:
        run.go()
        for number in answers:
            run.answer(number)
        assert run.go() == ("ask",), run.go()
    return runs


class Case(unittest.TestCase):

    def barred(self, told, run, units, out=()):
        """The refusal that comes, by which nothing is changed."""
        held, house = told_of(run), run.house()
        editions = [run.edition(unit[1]) for unit in house.units()]
        other = run.double()
        self.assertEqual(refusal(run.exchange, list(units), out=out), told)
        self.assertEqual((told_of(run), run.house()), (held, house))
        self.assertEqual([run.edition(unit[1]) for unit in house.units()], editions)
        while run.go() == ("ask",) and run.events() < 30:
            self.assertEqual(run.double().answer(1), other.double().answer(1))
            run.answer(0), other.answer(0)
            self.assertEqual(told_of(run), told_of(other))


class Refused(Case):

    HOUSE = House([kind("Main", ways=(way("go", rows=ECHO),)), kind("Free", fields=(("a", "num"),)), face("Face", (("x", (), "num"),))])

    def test_no_ask(self):
        for machine in MACHINES:
            run = Run(self.HOUSE, "Main", "go", machine=machine)
            for units, out in (([], ()), ([kind("A"), kind("A")], ()), ([], ("Nobody",)), ([kind("A", "B")], ()), ([], ("Main",))):
                self.assertEqual(refusal(run.exchange, units, out=out), (NoAsk,))
            run.go()
            run.answer(1)
            for units, out in (([], ()), ([kind("A"), kind("A")], ()), ([], ("Nobody",)), ([kind("A", "B")], ())):
                self.assertEqual(refusal(run.exchange, units, out=out), (NoAsk,))
            self.assertEqual(run.house(), self.HOUSE)
        free = Run(self.HOUSE, "Main", "go", free=True)
        free.go()
        self.assertEqual(refusal(free.exchange, []), (NoAsk,))

    def test_as_a_house_is_changed(self):
        # Without Main the frame would stay as it is; the thing of it is gone.
        for run in runs_of(self.HOUSE):
            twice, ring, bad = [kind("Two"), kind("Two", "Two")], kind("Ring", "Ring"), kind("Main", "Nobody")
            for told, units, out in (
                ((TwoUnits, "Two"), twice, ()), ((TwoUnits, "Two"), [ring] + twice, ("Nobody",)), ((NoUnit, "Nobody"), [ring], ("Nobody",)),
                ((NoUnit, "Ring"), [ring], ("Ring",)), ((NoUnit, "Free"), [ring], ("Free", "Free")), ((BadHouse, "Ring", "ring"), [ring], ("Free",)),
                ((BadHouse, "Main", "above"), [bad], ()), ((BadHouse, "Kind", "faces"), [kind("Kind", faces=("Face",))], ["Face"]),
            ):
                self.barred(told, run.double(), units, out)

    def test_they_are_due_ahead_of_what_stands(self):
        house = House([kind("Main", ways=(way("go", (), "num", (("get", 0), ("ask",), ("turn",), ("call", "Main", "one"), ("plus",), ("give",))),
                                          way("one")))])
        for run in runs_of(house):
            self.barred((Stands, "thing", 1, ""), run.double(), [kind("Other")], ("Main",))
            self.barred((BadHouse, "Other", "above"), run.double(), [kind("Other", "Nobody")], ("Main",))
            self.barred((TwoUnits, "Other"), run.double(), [kind("Other"), kind("Other")], ("Main",))
            self.barred((NoUnit, "None"), run.double(), [kind("Other")], ("Main", "None"))
            # The thing ahead of the frame.
            self.barred((Stands, "frame", 0, [1, 2, 3]), run.double(), [kind("Main")])


class Things(Case):

    # Things 2 to 5: a Base, a Pair of it, a Sub, a Pair of Sub and nothing else; all are kept at the ask.
    BASE, SUB = kind("Base", faces=("Some",), fields=(("a", "num"),)), kind("Sub", "Base", (), (("b", "num"),))
    PAIR = kind("Pair", fields=(("one", "num"), ("two", "Base")))
    SOME = face("Some", (("x", (), "num"),))
    WAY = (way("x"),)
    ROWS = (("num", 11), ("new", "Base"), ("put", 1), ("num", 12), ("get", 1), ("new", "Pair"), ("put", 2), ("num", 13), ("num", 14), ("new", "Sub"),
            ("put", 3), ("num", 15), ("get", 3), ("new", "Pair"), ("put", 4), ("ask",), ("get", 2), ("drop",), ("get", 4), ("drop",), ("give",))
    HOUSE = House([kind("Main", ways=(way("go", rows=ROWS),)), kind(*BASE[1:5], WAY), SUB, PAIR, SOME])

    def bars(self, number, field, *units, out=()):
        for run in runs_of(self.HOUSE):
            self.assertEqual(run.kept(), [2, 3, 4, 5])
            self.barred(None if number is None else (Stands, "thing", number, field), run, units, out)

    def lets(self, *units, out=(), told):
        for run in runs_of(self.HOUSE):
            self.assertIsNone(refusal(run.exchange, list(units), out=out))
            self.assertEqual(run.kept(), [number for number in told])
            self.assertEqual({number: run.thing(number) for number in told}, told)
            self.assertEqual(run.answer(6), ("gave", 6))

    def base(self, *fields, above="", faces=("Some",)):
        return kind("Base", above, faces, fields, self.WAY)

    def test_a_kind_that_is_gone(self):
        other = kind("Sub", "Pair")
        self.bars(2, "", kind("Pair", fields=(("one", "num"), ("two", "Sub"))), kind("Sub"), out=("Base",))
        self.bars(3, "", kind("Main", ways=self.HOUSE.unit_of("Main")[5]), out=("Pair",))
        self.bars(4, "", out=("Sub",))
        self.bars(3, "two", other, kind("Pair", fields=(("one", "num"), ("two", "Sub"))))

    def test_a_kind_that_became_a_face(self):
        self.bars(4, "", face("Sub", (("y", (), "num"),)))
        self.bars(2, "", face("Base", (("y", (), "num"),)), kind("Sub"))
        self.bars(3, "", face("Pair", (("y", (), "num"),)))

    def test_what_a_field_holds_fits_nothing_where_its_kind_is_no_kind(self):
        # Thing 3, a Holds, holds thing 4, a Sub.
        rows = (("new", "Base"), ("new", "Holds"), ("put", 1), ("get", 1), ("new", "Sub"), ("write", "Holds", "it"), ("ask",), ("get", 1), ("drop",),
                ("give",))
        house = House([kind("Main", ways=(way("go", rows=rows),)), kind("Base"), kind("Sub", "Base"), kind("Holds", fields=(("it", "Base"),))])
        sub = face("Sub", (("x", (), "num"),))
        for run in runs_of(house):
            self.assertEqual((run.kept(), run.thing(3)), ([3, 4], ("Holds", (("thing", 4),))))
            self.barred((Stands, "thing", 3, "it"), run.double(), [], ("Sub",))
            self.barred((Stands, "thing", 3, "it"), run.double(), [sub])
            self.barred((Stands, "thing", 3, "it"), run.double(), [sub, kind("Holds", fields=(("it", "Sub"),))])
            self.barred((Stands, "thing", 3, "it"), run.double(), [kind("Holds", fields=(("it", "Base"),))], ["Sub"])
            # Where the field goes it is the thing itself that bars.
            self.barred((Stands, "thing", 3, ""), run.double(), [], ("Sub", "Holds"))
            run.exchange([kind("Sub"), kind("Holds", fields=(("it", "Sub"),))])
            self.assertEqual((run.kept(), run.thing(3)), ([3, 4], ("Holds", (("thing", 4),))))

    def test_a_field_of_another_sort(self):
        self.bars(2, "a", self.base(("a", "Base")))
        self.bars(2, "a", self.base(("a", "Some")))
        self.bars(3, "two", kind("Pair", fields=(("one", "num"), ("two", "num"))))
        self.bars(3, "one", kind("Pair", fields=(("one", "Base"), ("two", "num"))))
        # In the newer order.
        self.bars(3, "two", kind("Pair", fields=(("two", "num"), ("one", "Base"))))
        self.bars(3, "two", kind("Pair", fields=(("two", "Sub"),)))
        self.bars(3, "two", kind("Pair", fields=(("one", "num"), ("two", "Main"))))
        # Thing 3 may stand, 4 may not.
        self.bars(4, "b", kind("Sub", "Base", (), (("b", "Pair"),)))

    def test_a_thing_that_fits_less(self):
        faced = kind("Pair", fields=(("one", "num"), ("two", "Some")))
        self.lets(faced, told={2: ("Base", (11,)), 3: ("Pair", (12, ("thing", 2))), 4: ("Sub", (13, 14)), 5: ("Pair", (15, ("thing", 4)))})
        self.bars(3, "two", faced, self.base(("a", "num"), faces=()))
        self.bars(5, "two", kind("Sub", "", (), (("a", "num"), ("b", "num"))))
        self.bars(3, "two", faced, kind("Base", fields=(("a", "num"),)), kind("Sub", "Base", ("Some",), (), self.WAY))

    def test_a_field_that_comes(self):
        self.bars(2, "c", self.base(("a", "num"), ("c", "Base")))
        self.bars(2, "c", self.base(("c", "Some"), ("a", "Base")))
        self.bars(4, "c", kind("Sub", "Base", (), (("c", "Sub"), ("b", "num"))))
        self.bars(2, "d", kind("Top", fields=(("d", "Top"),)), self.base(("a", "num"), above="Top"))
        self.bars(2, "a", self.base(("a", "Base"), ("c", "Base")))

    def test_the_first_thing_by_its_number(self):
        self.bars(2, "c", self.base(("a", "num"), ("c", "Base")), kind("Pair"), kind("Sub"))
        self.bars(3, "one", kind("Pair", fields=(("one", "Base"), ("two", "Base"))), face("Sub", (("y", (), "num"),)))

    def test_fields_in_their_newer_order(self):
        self.lets(kind("Pair", fields=(("c", "num"), ("two", "Base"), ("d", "num"), ("one", "num"))), kind("Sub", "Base"),
                  self.base(("z", "num"), ("a", "num")),
                  told={2: ("Base", (0, 11)), 3: ("Pair", (0, ("thing", 2), 0, 12)), 4: ("Sub", (0, 13)), 5: ("Pair", (0, ("thing", 4), 0, 15))})
        # Of which kind of the family a field is, is no matter.
        self.lets(self.base(), kind("Sub", "Base", (), (("b", "num"), ("a", "num"))), told={
            2: ("Base", ()), 3: ("Pair", (12, ("thing", 2))), 4: ("Sub", (14, 13)), 5: ("Pair", (15, ("thing", 4)))})
        self.lets(kind("Top", fields=(("b", "num"),)), self.base(("a", "num"), above="Top"), kind("Sub", "Base"), told={
            2: ("Base", (0, 11)), 3: ("Pair", (12, ("thing", 2))), 4: ("Sub", (14, 13)), 5: ("Pair", (15, ("thing", 4)))})

    def test_a_field_that_goes_lets_go_what_it_held(self):
        self.lets(kind("Pair", fields=(("one", "num"),)), told={3: ("Pair", (12,)), 5: ("Pair", (15,))})

    def test_a_field_that_went_comes_with_nought(self):
        for run in runs_of(self.HOUSE):
            run.exchange([kind("Pair", fields=(("two", "Base"),))])
            self.assertEqual(run.thing(3), ("Pair", (("thing", 2),)))
            run.exchange([self.PAIR])
            self.assertEqual(run.thing(3), ("Pair", (0, ("thing", 2))))

    def test_things_that_are_not_kept_are_no_matter(self):
        rows = (("num", 11), ("new", "Base"), ("put", 1), ("ask",), ("give",))
        house = House([kind("Main", ways=(way("go", rows=rows),)), kind("Base", fields=(("a", "num"),))])
        for run in runs_of(house):
            run.exchange([], out=("Base",))
            self.assertEqual((run.kept(), run.made()), ([], 2))
            self.assertEqual(run.answer(3), ("gave", 3))


class Frames(Case):

    def test_the_top_frame_from_its_ask(self):
        rows = (("get", 1), ("say",), ("ask",), ("get", 0), ("call", "Main", "one"), ("plus",), ("give",))
        house = House([kind("Main", ways=(way("go", ("num",), "num", rows), way("one")))])
        main = house.unit_of("Main")
        for run in runs_of(house, numbers=(3,)):
            self.barred((Stands, "frame", 0, [2, 3, 4]), run.double(), [main[:5] + (main[5][:1],)])
            self.barred((Stands, "frame", 0, [2, 3, 4]), run.double(), [main[:5] + ((main[5][0], way("one", ("num",))),)])
            self.barred((Stands, "frame", 0, [2, 3, 4, 5]), run.double(), [main[:5] + ((main[5][0], way("one", (), "Main", (("get", 0), ("give",)))),)])
            # What is behind it is no matter; the way itself may be gone, and the run goes on in it.
            run.exchange([main[:5] + (main[5][1:],)])
            self.assertEqual(run.frames(), [("Main", "go", 0, 2, (("thing", 1),) + ("-",) * 7, ())])
            self.assertEqual(run.answer(4), ("gave", 5))

    def test_a_number_where_it_stands(self):
        # By its beginning the way would go wrong there, by what lies there it does not.
        rows = (("get", 1), ("put", 2), ("ask",), ("drop",), ("get", 2), ("give",))
        house = House([kind("Main", ways=(way("go", ("num",), "num", rows),)), kind("Base")])
        newer = kind("Main", ways=(way("go", ("Base",), "num", (("num", 1), ("give",))),))
        for run in runs_of(house, numbers=(8,)):
            run.exchange([newer])
            self.assertEqual(run.answer(0), ("gave", 8))

    def test_a_thing_has_the_names_of_its_own_kind(self):
        # In box 2 lies a Sub, known as Base; in the newer house all that is done with it is a Sub's.
        rows = (("new", "Sub"), ("new", "Holds"), ("read", "Holds", "it"), ("put", 2), ("ask",), ("drop",), ("get", 2), ("call", "Base", "own"), ("give",))
        base = kind("Base", ways=(way("own"),))
        house = House([kind("Main", ways=(way("go", rows=rows),)), base, kind("Sub", "Base"), kind("Holds", fields=(("it", "Base"),))])
        for run in runs_of(house):
            lone = kind("Sub", "", (), (), (way("own"),))
            self.barred((Stands, "frame", 0, [4, 5, 6, 7]), run.double(), [lone])
            self.barred((Stands, "frame", 0, [4, 5, 6, 7, 8]), run.double(), [
                kind("Base", ways=(way("own", (), "Main", (("num", 1), ("throw",))),)), kind("Sub", "Base")])
            newer = [kind("Base", ways=(way("own"),)), kind("Sub", "Base", (), (), (way("own", (), "num", (("num", 77), ("give",))),))]
            run.exchange(newer)
            self.assertEqual(run.answer(0), ("gave", 77))

    def test_nothing_and_boxes_that_are_not_live(self):
        rows = (("get", 6), ("new", "Base"), ("put", 3), ("ask",), ("turn",), ("drop",), ("give",))
        house = House([kind("Main", ways=(way("go", rows=rows),)), kind("Base")])
        for run in runs_of(house):
            run.exchange([], out=("Base",))
            self.assertEqual(run.frames(), [("Main", "go", 0, 3, ("-",) * 8, (None,))])
            self.assertEqual(run.answer(4), ("gave", 4))

    INNER = way("inner", (), "num", ECHO)
    OUTER = way("go", (), "num", (("num", 5), ("get", 0), ("call", "Main", "inner"), ("plus",), ("get", 0), ("call", "Main", "after"), ("plus",), ("give",)))
    AFTER = way("after")
    WAITS = House([kind("Main", ways=(OUTER, INNER, AFTER))])

    def test_a_frame_that_waits_goes_on_behind_its_row(self):
        for run in runs_of(self.WAITS):
            self.barred((Stands, "frame", 0, [2, 3, 4, 5]), run.double(), [kind("Main", ways=(self.OUTER, self.INNER))])
            # The call at which it waits is done; what it would want now is no matter.
            run.exchange([kind("Main", ways=(self.AFTER, way("inner", ("Main",), "Main", (("get", 0), ("give",)))))])
            self.assertEqual([frame[1:4] for frame in run.frames()], [("go", 0, 2), ("inner", 0, 0)])
            self.assertEqual(run.answer(20), ("gave", 26))

    def test_what_comes_has_the_type_that_the_body_on_it_gives(self):
        inner = way("inner", (), "Base", (("ask",), ("drop",), ("new", "Sub"), ("give",)))
        outer = way("go", (), "num", (("get", 0), ("call", "Main", "inner"), ("call", "Base", "own"), ("give",)))
        house = House([kind("Main", ways=(outer, inner)), kind("Base", ways=(way("own"),)), kind("Sub", "Base")])
        for run in runs_of(house):
            # A Sub has the way still, but it is given as a Base.
            self.barred((Stands, "frame", 0, [1, 2]), run.double(), [kind("Base"), kind("Sub", "Base", (), (), (way("own"),))])
            # In the frame on it the Sub does not fit any more: that is the second frame.
            self.barred((Stands, "frame", 1, [0, 1, 2, 3]), run.double(), [kind("Sub", "", (), (), (way("own"),))])
            other = way("own", (), "num", (("num", 44), ("give",)))
            run.exchange([kind("Base", ways=(other,)), kind("Sub", "Base")])
            self.assertEqual(run.answer(0), ("gave", 44))

    def test_each_frame_has_what_the_one_on_it_gives(self):
        # The types that the three bodies give are unlike, so none may stand for another one.
        last = way("last", (), "Sub", (("ask",), ("drop",), ("new", "Sub"), ("give",)))
        inner = way("inner", (), "Base", (("get", 0), ("call", "Main", "last"), ("put", 1), ("get", 1), ("call", "Sub", "low"), ("drop",), ("get", 1),
                                          ("give",)))
        outer = way("go", (), "num", (("get", 0), ("call", "Main", "inner"), ("call", "Base", "own"), ("give",)))
        base, sub = kind("Base", ways=(way("own"),)), kind("Sub", "Base", ways=(way("low"),))
        house = House([kind("Main", ways=(outer, inner, last)), base, sub])
        for run in runs_of(house):
            self.assertEqual([frame[1] for frame in run.frames()], ["go", "inner", "last"])
            self.barred((Stands, "frame", 0, [1, 2]), run.double(), [kind("Base"), kind("Sub", "Base", ways=(way("own"), way("low")))])
            self.barred((Stands, "frame", 1, [1, 2, 3, 4]), run.double(), [kind("Sub", "Base")])
            self.barred((Stands, "frame", 1, [1, 2, 3, 4, 5, 6, 7]), run.double(), [kind("Sub", ways=(way("own"), way("low")))])
            self.barred((Stands, "frame", 2, [0, 1, 2]), run.double(), [kind("Sub", "Base", (), (("a", "num"),), (way("low"),)), kind("Main")])
            run.exchange([])
            run.exchange([kind("Main")])
            self.assertEqual(run.answer(0), ("gave", 1))

    def test_a_type_that_is_a_name_of_no_unit(self):
        # The frame on it never gives, so what would come behind it is no matter.
        inner = way("inner", (), "Base", (("ask",), ("throw",)))
        rows = (("get", 0), ("call", "Main", "inner"), ("call", "Base", "own"), ("give",), ("say",), ("num", 3), ("give",))
        for catches in ((), ((1, 2, 4),)):
            outer = way("go", (), "num", rows, ((4, 1),), catches)
            house = House([kind("Main", ways=(outer, inner)), kind("Base", ways=(way("own"),))])
            for run in runs_of(house):
                plain = kind("Main", ways=(way("more"),))
                self.barred((Stands, "frame", 0, [1, 2]), run.double(), [kind("Base"), kind("Main")])
                run.exchange([plain], out=("Base",))
                self.assertEqual(run.answer(9), ("gave", 3) if catches else ("fault", 9))

    def test_through_the_catch(self):
        rows = (("get", 0), ("call", "Main", "inner"), ("get", 0), ("call", "Main", "late"), ("plus",), ("give",),
                ("get", 0), ("call", "Main", "after"), ("plus",), ("give",))
        outer = way("go", (), "num", rows, ((6, 1),), ((1, 2, 6),))
        house = House([kind("Main", ways=(outer, self.INNER, self.AFTER, way("late")))])
        for run in runs_of(house):
            self.barred((Stands, "frame", 0, [1, 6, 7]), run.double(), [kind("Main", ways=(way("late"),))])
            self.barred((Stands, "frame", 0, [1, 2, 3]), run.double(), [kind("Main", ways=(self.AFTER,))])
            for ways in ((self.AFTER, way("late", ("num",))), (way("late"), way("after", ("num",)))):
                told = refusal(run.double().exchange, [kind("Main", ways=ways)])
                self.assertEqual(told, (Stands, "frame", 0, [1, 2, 3] if ways[0] == self.AFTER else [1, 6, 7]))
            # Where both have one the shorter is told.
            self.assertEqual(len(refusal(run.double().exchange, [kind("Main", ways=(way("own"),))])[3]), 3)

    def test_the_shorter_of_two_roads(self):
        long = (("ask",), ("plus",), ("ask",), ("plus",))
        for behind, caught, road in ((0, 1, [1, 2, 3]), (1, 0, [1, 8, 9])):
            rows = (("get", 0), ("call", "Main", "inner")) + long * behind + (("get", 0), ("call", "Main", "after"), ("plus",), ("give",))
            at = len(rows)
            rows += long * caught + (("get", 0), ("call", "Main", "after"), ("plus",), ("give",))
            house = House([kind("Main", ways=(way("go", (), "num", rows, ((at, 1),), ((1, 2, at),)), self.INNER, self.AFTER))])
            for run in runs_of(house):
                wanted = [1, 2, 3] if behind == 0 else [1, at, at + 1]
                self.barred((Stands, "frame", 0, wanted), run, [kind("Main", ways=(self.INNER,))])

    def test_the_first_frame_that_bars(self):
        again = way("again", ("num",), "num", (
            ("get", 1), ("nought", 7), ("get", 0), ("get", 1), ("num", 1), ("minus",), ("jump", 9), ("ask",), ("jump", 10),
            ("call", "Main", "again"), ("get", 0), ("call", "Main", "after"), ("plus",), ("give",)), ((7, 0), (9, 2), (10, 1)))
        rows = (("get", 0), ("num", 3), ("call", "Main", "again"), ("give",))
        house = House([kind("Main", ways=(way("go", (), "num", rows), again, self.AFTER))])
        newer = [kind("Main", ways=(way("go", (), "num", rows), again))]
        for run in runs_of(house):
            self.assertEqual(len(run.frames()), 5)
            self.barred((Stands, "frame", 1, [9, 10, 11]), run.double(), newer)
            run.exchange([kind("Main", ways=(way("after", (), "num", (("num", 1000), ("give",))),))])
            self.assertEqual(run.answer(5), ("gave", 4005))

    def test_roads_are_as_short_as_any_and_hold(self):
        rows = (("ask",), ("nought", 5), ("ask",), ("drop",), ("jump", 5), ("ask",), ("drop",), ("get", 0), ("call", "Main", "one"), ("give",))
        body = ("Main", way("go", (), "num", rows, ((5, 0),)))
        house = House([kind("Main", ways=(body[1], way("one")))])
        newer = House([kind("Main", ways=(body[1],))])
        for run in runs_of(house):
            told = refusal(run.exchange, newer.units())
            self.assertEqual(told, (Stands, "frame", 0, [0, 1, 5, 6, 7, 8]))
            self.assertTrue(road_holds_by_rules(Body(newer, body), (0, (("Main",),) + ("any",) * 7, ()), told[3]))
            told[3].clear()
            self.assertEqual(refusal(run.exchange, newer.units())[3], [0, 1, 5, 6, 7, 8])


class Behind(Case):

    def test_frames_in_their_own_bodies_and_calls_in_the_newer_ones(self):
        one = way("one", (), "num", (("num", 1), ("give",)))
        rows = (("get", 0), ("call", "Main", "one"), ("ask",), ("plus",), ("get", 0), ("call", "Main", "one"), ("plus",), ("give",))
        house = House([kind("Main", ways=(way("go", rows=rows), one)), kind("Low", "Main")])
        newer = kind("Main", ways=(way("go"), way("one", (), "num", (("num", 30), ("give",)))))
        for kind_name in ("Main", "Low"):
            for run in runs_of(house, kind_name):
                run.exchange([newer])
                self.assertEqual(run.frames(), [("Main", "go", 0, 2, (("thing", 1),) + ("-",) * 7, (1,))])
                self.assertEqual((run.edition("Main"), run.house().unit_of("Main")), (1, newer))
                self.assertEqual(run.answer(200), ("gave", 231))
            for run in runs_of(house, "Low"):
                run.exchange([kind("Low", "Main", (), (), (way("one", (), "num", (("num", 50), ("give",))),))])
                self.assertEqual(run.answer(200), ("gave", 251))

    def test_a_call_of_a_way_that_is_no_longer_let_by(self):
        rows = (("ask",), ("get", 0), ("call", "Main", "one"), ("plus",), ("give",))
        bad = way("one", (), "num", (("drop",), ("num", 1), ("give",)))
        for start, then, ends in ((way("one"), bad, (("gave", 6), ("fault", 4))), (bad, way("one"), (("fault", 4), ("gave", 6)))):
            house = House([kind("Main", ways=(way("go", rows=rows), start))])
            for run in runs_of(house):
                self.assertEqual(run.double().answer(5), ends[0])
                run.exchange([kind("Main", ways=(way("go", rows=rows), then))])
                self.assertEqual(run.answer(5), ends[1])

    def test_rows_that_take_more_now(self):
        # The new takes one value more, and for the frame there is one.
        rows = (("num", 7), ("num", 8), ("ask",), ("drop",), ("new", "Base"), ("read", "Base", "a"), ("give",))
        house = House([kind("Main", ways=(way("go", rows=rows),)), kind("Base", fields=(("a", "num"),))])
        for fields, end in (((("a", "num"), ("b", "num")), 7), ((("b", "num"), ("a", "num")), 8)):
            for run in runs_of(house):
                run.exchange([kind("Base", fields=fields)])
                self.assertEqual(run.double().answer(0), ("gave", end))
                run.on("planned")
                self.assertEqual(run.answer(0), ("gave", end))

    def test_rows_that_take_more_now_in_a_way_that_stays(self):
        # Here a run by plans comes to an entry, whose block takes more now, too.
        rows = (("num", 7), ("num", 8), ("ask",), ("jump", 4), ("drop",), ("new", "Base"), ("read", "Base", "a"), ("give",))
        house = House([kind("Main", ways=(way("go", (), "num", rows, ((4, 3),)),)), kind("Base", fields=(("a", "num"),))])
        for fields, end in (((("a", "num"), ("b", "num")), 7), ((("b", "num"), ("a", "num")), 8)):
            for run in runs_of(house):
                self.assertEqual(run.double().answer(0), ("gave", 8))
                run.exchange([kind("Base", fields=fields)])
                self.assertEqual(run.answer(0), ("gave", end))

    def test_things_by_their_newer_names(self):
        rows = (("new", "Base"), ("put", 1), ("ask",), ("drop",), ("get", 1), ("fits", "Face"), ("get", 1), ("fits", "Other"), ("plus",), ("give",))
        faces = [face("Face", (("x", (), "num"),)), face("Other", (("x", (), "num"),))]
        house = House([kind("Main", ways=(way("go", rows=rows),)), kind("Base", "", ("Face",), (), (way("x"),)), *faces])
        for told, faced in ((0, ()), (1, ("Face",)), (1, ("Other",)), (2, ("Face", "Other"))):
            for run in runs_of(house):
                run.exchange([kind("Base", "", faced, (), (way("x"),))])
                self.assertEqual(run.answer(0), ("gave", told))

    def test_editions(self):
        house = House([kind("Main", ways=(way("go", (), "num", (("ask",), ("get", 0), ("call", "Main", "in"), ("plus",), ("give",))),
                                          way("in", rows=ECHO))), kind("Aa"), kind("Bb")])
        main = house.unit_of("Main")
        for run in runs_of(house):
            def editions(**told):
                self.assertEqual({unit[1]: run.edition(unit[1]) for unit in run.house().units()}, told)

            editions(Main=0, Aa=0, Bb=0)
            run.exchange([kind("Aa", fields=(("x", "num"),)), kind("Bb"), kind("Cc")])
            editions(Main=0, Aa=1, Bb=0, Cc=0)
            run.exchange([kind("Aa"), kind("Cc", "Aa")], out=("Bb",))
            editions(Main=0, Aa=2, Cc=1)
            self.assertEqual(refusal(run.edition, "Bb"), (NoUnit, "Bb"))
            run.exchange([kind("Bb")], out=["Cc"])
            editions(Main=0, Aa=2, Bb=1)
            run.exchange([kind("Aa"), kind("Bb")])
            editions(Main=0, Aa=2, Bb=1)
            # A unit that comes is a newer one, also where it is as it was.
            run.exchange([kind("Cc", "Aa"), face("Bb", (("x", (), "num"),))])
            editions(Main=0, Aa=2, Bb=2, Cc=2)
            run.exchange([main[:5] + (main[5] + (way("more"),),)])
            editions(Main=1, Aa=2, Bb=2, Cc=2)
            self.assertEqual(run.answer(3), ("ask",))
            self.assertEqual([frame[:4] for frame in run.frames()], [("Main", "go", 0, 2), ("Main", "in", 1, 0)])
            run.exchange([main])
            self.assertEqual([frame[2] for frame in run.frames()], [0, 1])
            editions(Main=2, Aa=2, Bb=2, Cc=2)
            self.assertEqual(run.answer(4), ("gave", 7))
            editions(Main=2, Aa=2, Bb=2, Cc=2)
            for name in ("", "num", "Nobody", "Dd"):
                self.assertEqual(refusal(run.edition, name), (NoUnit, name))

    def test_a_refused_exchange_tells_no_edition(self):
        house = House([kind("Main", ways=(way("go", (), "num", (("get", 0), ("ask",), ("turn",), ("call", "Main", "in"), ("plus",), ("give",))), way("in")))])
        for run in runs_of(house):
            for _ in range(3):
                self.assertEqual(refusal(run.exchange, [kind("Main"), kind("New")])[:2], (Stands, "frame"))
            run.exchange([kind("New")])
            self.assertEqual((run.edition("New"), run.edition("Main")), (0, 0))

    def test_by_nothing_and_by_units_that_are_there(self):
        for run in runs_of(Frames.WAITS):
            held = told_of(run)
            for units in ([], Frames.WAITS.units()):
                run.exchange(units)
                self.assertEqual((told_of(run), run.house(), run.edition("Main")), (held, Frames.WAITS, 0))
            self.assertEqual(run.answer(1), ("gave", 7))

    def test_the_list_that_is_handed_in_may_be_changed_behind(self):
        for run in runs_of(Frames.WAITS):
            units = [kind("New")]
            run.exchange(units)
            units.clear()
            self.assertEqual(len(run.house()), 2)

    def test_it_goes_on_on_its_machine_as_on_any_other(self):
        for run in runs_of(Frames.WAITS):
            machine = run.machine()
            run.exchange([kind("Main", ways=(Frames.AFTER,))])
            self.assertEqual(run.machine(), machine)
            for other in MACHINES:
                one = run.double()
                one.on(other)
                self.assertEqual(one.answer(1), ("gave", 7))

    def test_where_the_way_itself_is_not_let_by_any_more(self):
        # Row 1 is behind it, and is not come to again.
        rows = (("get", 0), ("call", "Main", "one"), ("put", 1), ("ask",), ("get", 1), ("plus",), ("jump", 7), ("say",), ("get", 1), ("give",))
        house = House([kind("Main", ways=(way("go", (), "num", rows, ((7, 1),)), way("one")))])
        main = house.unit_of("Main")[5][0]
        for run in runs_of(house):
            run.exchange([kind("Main", ways=(main,))])
            self.assertIsNone(paper_of(run.house(), "Main", "go"))
            for machine in MACHINES:
                other = run.double()
                other.on(machine)
                self.assertEqual((other.answer(4), other.said()), (("gave", 1), [5]))


class Nothing(Case):

    def test_by_which_nothing_is_lost_is_let_in(self):
        run = run_of(("get", 0), ("ask",), ("drop",), ("drop",), ("get", 0), ("read", "Main", "a"), ("give",), fields=(("a", "num"),))
        run.go()
        main = run.house().unit_of("Main")
        run.exchange([main[:3] + (("Goer",),) + main[4:], face("Goer", (("go", (), "num"),)), kind("Low", "Main")])
        self.assertEqual(run.answer(0), ("gave", 0))


if __name__ == "__main__":
    unittest.main()
