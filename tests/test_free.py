"""[35]: free runs."""

import unittest

from refusals import refusal
from run_samples import house_of, run_of
from samples import face, kind, way
from strangemill.errors import NoAsk, NoRun
from strangemill.look import paper_of
from strangemill.runs import Run

OTHERS = (kind("Base", fields=(("many", "num"), ("next", "Base")), ways=(way("name", ("num",), "num"),)), kind("Sub", "Base", ("Named",)),
          kind("Empty"), kind("Wide", fields=tuple((f"f{at}", "num") for at in range(6))),
          kind("Wider", "Wide", fields=tuple((f"g{at}", "num") for at in range(3))), face("Named", (("name", ("num",), "num"),)))


class Free(unittest.TestCase):

    def ends(self, told, *rows, events=None, **parts):
        run = run_of(*rows, free=True, others=OTHERS, **parts)
        self.assertEqual(run.go(), told)
        self.assertEqual((run.frames(), run.kept()), ([], []))
        self.assertEqual(run.go(), told)
        if events is not None:
            self.assertEqual(run.events(), events)

    def wrong(self, word, row, *rows, **parts):
        self.ends(("wrong", word, "Main", "go", row), *rows, **parts)

    def test_off(self):
        self.wrong("off", 1, ("num", 1))
        self.wrong("off", 2, ("num", 1), ("say",), events=1)
        self.wrong("off", 3, ("num", 1), ("nought", 0), ("num", 5), entries=((0, 0),))

    def test_height_is_told_of_the_row_to_which_it_came(self):
        self.wrong("height", 1, ("num", 1), ("give",), entries=((1, 0),))
        self.wrong("height", 2, ("num", 1), ("jump", 2), ("give",), entries=((2, 2),))
        self.wrong("height", 0, ("num", 1), ("jump", 0), entries=((0, 0),), events=1)
        self.wrong("height", 0, ("num", 1), entries=((0, 3),))

    def test_lack(self):
        for row in (("new", "Nobody"), ("read", "Base", "none"), ("call", "Named", "name"), ("hail", "Base", "name"), ("fits", "Nobody")):
            self.wrong("lack", 0, row)
            self.wrong("lack", 2, ("num", 1), ("num", 1), row)

    def test_low(self):
        for row in (("say",), ("drop",), ("put", 0), ("twin",), ("give",), ("throw",), ("nought", 0), ("new", "Base"), ("read", "Base", "many"),
                    ("call", "Base", "name"), ("fits", "Base")):
            self.wrong("low", 0, row, entries=((0, 0),), events=0)
        for row in (("turn",), ("plus",), ("part",), ("same",), ("write", "Base", "many"), ("call", "Base", "name"), ("new", "Base")):
            self.wrong("low", 1, ("num", 1), row, events=0)
        self.wrong("low", 8, *[("num", 1)] * 8, ("new", "Wider"), events=0)

    THING, NUM, NOTHING = ("get", 0), ("num", 4), ("get", 7)

    def test_a_number_is_wanted(self):
        for one in (self.THING, self.NOTHING):
            for row in (("say",), ("throw",), ("nought", 0), ("give",), ("write", "Base", "many")):
                self.wrong("num", 2, one, one, row, entries=((0, 0),), events=0)
            for row in (("plus",), ("minus",), ("times",), ("part",)):
                self.wrong("num", 2, self.NUM, one, row)
                self.wrong("num", 2, one, self.NUM, row)

    def test_a_thing_is_wanted(self):
        for one in (self.NUM, self.NOTHING):
            for row in (("read", "Base", "many"), ("fits", "Base"), ("write", "Base", "next")):
                self.wrong("thing", 2, one, one, row)
            self.wrong("thing", 2, one, self.THING, ("same",))
            self.wrong("thing", 2, self.THING, one, ("same",))
            self.wrong("thing", 2, one, self.NUM, ("call", "Base", "name"), events=0)
            self.wrong("thing", 2, one, self.NUM, ("hail", "Named", "name"), events=0)
            self.wrong("thing", 1, one, ("give",), gives="Base")

    def test_a_thing_that_fits_is_wanted(self):
        self.wrong("fits", 1, self.THING, ("read", "Base", "many"))
        self.wrong("fits", 2, self.THING, self.NUM, ("call", "Base", "name"), events=0)
        self.wrong("fits", 1, self.THING, ("give",), gives="Base")
        self.wrong("fits", 2, self.NUM, self.THING, ("new", "Base"), events=0)
        self.wrong("fits", 2, self.THING, self.THING, ("write", "Base", "next"))

    def test_the_first_word_from_the_top_down(self):
        self.wrong("num", 2, self.NUM, self.THING, ("call", "Base", "name"))
        self.wrong("num", 2, self.NUM, self.NOTHING, ("write", "Base", "many"))
        self.wrong("thing", 2, self.NUM, self.NUM, ("write", "Base", "many"))
        self.wrong("thing", 2, self.THING, self.NUM, ("same",))

    def test_high(self):
        for row in (("ask",), ("num", 0), ("get", 0), ("twin",), ("new", "Empty")):
            self.wrong("high", 8, *[("num", 1)] * 8, row, events=0)

    def test_wants_are_met_where_the_mark_would_not_have_been(self):
        # By its marks this goes wrong; with this number it does not.
        rows = (("get", 1), ("nought", 3), ("drop",), ("num", 2), ("give",))
        self.assertEqual(run_of(*rows, free=True, entries=((3, 0),), numbers=(0,)).go(), ("gave", 2))
        self.wrong("low", 2, *rows, entries=((3, 0),), numbers=(1,))

    def test_a_thing_may_fit_what_its_box_is_not_known_to(self):
        kinds = (kind("Top"), kind("Low", "Top", (), (), (way("own", (), "num"),)), kind("Holds", fields=(("it", "Top"),)))
        rows = (("new", "Low"), ("new", "Holds"), ("read", "Holds", "it"), ("call", "Low", "own"), ("give",))
        house = house_of(*rows, others=kinds)
        self.assertIsNone(paper_of(house, "Main", "go"))
        self.assertEqual(Run(house, "Main", "go", free=True).go(), ("gave", 1))

    def test_of_which_body_it_is_told(self):
        kinds = (kind("Top", ways=(way("bad", ("num",), "num", (("num", 1), ("turn",), ("drop",), ("drop",), ("say",))),)), kind("Low", "Top"))
        rows = (("new", "Low"), ("num", 5), ("call", "Low", "bad"), ("give",))
        run = Run(house_of(*rows, others=kinds), "Main", "go", free=True)
        self.assertEqual(run.go(), ("wrong", "low", "Top", "bad", 1))
        self.assertEqual((run.events(), run.made(), run.kept(), run.frames()), (2, 2, [], []))

    def test_no_way_is_barred(self):
        worse = way("worse", (), "num", (("num", 6), ("nought", 4), ("num", 2), ("give",), ("drop",)), ((4, 0),))
        rows = (("get", 0), ("call", "Main", "worse"), ("give",))
        self.assertEqual(run_of(*rows, ways=(worse,)).go(), ("fault", 4))
        self.assertEqual(run_of(*rows, ways=(worse,), free=True).go(), ("gave", 2))
        # Also where there is a catch.
        caught = {"entries": ((2, 1),), "catches": ((0, 2, 2),), "ways": (worse,)}
        self.assertEqual(run_of(*rows, **caught).go(), ("gave", 4))
        self.assertEqual(run_of(*rows, free=True, **caught).go(), ("gave", 2))

    def test_ends_otherwise(self):
        self.assertEqual(run_of(("num", 3), ("num", 0), ("part",), ("give",), free=True).go(), ("fault", 1))
        self.assertEqual(run_of(("num", 3), ("throw",), free=True).go(), ("fault", 3))
        self.assertEqual(run_of(("jump", 0), entries=((0, 0),), free=True).go(), ("long",))
        self.assertEqual(run_of(("get", 0), ("give",), gives="Main", free=True).go(), ("gave", ("thing", 1)))
        deep = run_of(("get", 0), ("call", "Main", "go"), ("give",), free=True)
        self.assertEqual((deep.go(), deep.events()), (("fault", 2), 30))
        full = run_of(("new", "Empty"), ("jump", 0), free=True, others=OTHERS, entries=((0, 0),))
        self.assertEqual(full.go(), ("wrong", "height", "Main", "go", 0))
        self.assertEqual(run_of(("get", 0), ("new", "Empty"), ("drop",), ("give",), gives="Main", free=True, others=OTHERS, room=1).go(),
                         ("fault", 3))

    def test_what_is_wanted_is_looked_at_ahead_of_the_event(self):
        run = run_of(("num", 1), ("say",), ("get", 7), ("say",), free=True, most=1)
        self.assertEqual((run.go(), run.events()), (("wrong", "num", "Main", "go", 3), 1))
        run = run_of(("num", 1), ("say",), ("num", 1), ("say",), ("drop",), free=True, most=1)
        self.assertEqual((run.go(), run.events()), (("long",), 1))

    def test_asks_and_frames(self):
        run = run_of(("get", 6), ("ask",), ("say",), ("get", 0), ("say",), free=True)
        self.assertEqual(run.go(), ("ask",))
        self.assertEqual(run.frames(), [("Main", "go", 0, 1, (("thing", 1),) + ("-",) * 7, (None,))])
        self.assertEqual(run.kept(), [1])
        self.assertEqual(run.answer(5), ("wrong", "num", "Main", "go", 4))
        self.assertEqual((run.said(), run.kept()), ([5], []))

    def test_on_and_exchange(self):
        run = run_of(("ask",), ("give",), free=True)
        for machine in ("careful", "quick", "planned"):
            self.assertEqual(refusal(run.on, machine), (NoAsk,))
        run.go()
        for machine in ("careful", "quick", "planned"):
            self.assertEqual(refusal(run.on, machine), (NoRun, "free"))
        self.assertEqual(run.machine(), "careful")
        self.assertEqual(refusal(run.exchange, []), (NoAsk,))
        self.assertEqual(refusal(run.exchange, [], out=("Nobody",)), (NoAsk,))
        self.assertEqual(run.answer(4), ("gave", 4))
        self.assertEqual(refusal(run.on, "careful"), (NoAsk,))

    def test_a_double_is_free_too(self):
        run = run_of(("ask",), ("nought", 3), ("drop",), ("num", 2), ("give",), free=True, entries=((3, 0),))
        run.go()
        other = run.double()
        self.assertEqual(refusal(other.on, "careful"), (NoRun, "free"))
        self.assertEqual(run.answer(0), ("gave", 2))
        self.assertEqual(other.answer(1), ("wrong", "low", "Main", "go", 2))


if __name__ == "__main__":
    unittest.main()
