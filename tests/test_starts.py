"""[27], [34], [40]: how runs begin, what bars them, and answers."""

import unittest

from refusals import refusal
from run_samples import MACHINES, house_of, run_of
from samples import face, kind, way
from strangemill.errors import BadPlan, NoAsk, NoRun
from strangemill.house import House
from strangemill.plans import plan_of
from strangemill.runs import Run

ECHO = (("ask",), ("say",), ("ask",), ("give",))
WRONG = (("drop",), ("num", 1), ("give",))

HOUSE = House([
    kind("Main", fields=(("a", "num"), ("b", "num")), ways=(
        way("go", ("num", "num"), "num", ECHO), way("wants", ("Main",), "num", ECHO), way("wrong", ("num",), "num", WRONG),
        way("wrongs", ("Main",), "num", WRONG), way("none", (), "num", ECHO),
    )),
    kind("Low", "Main", ("Face",), (("c", "num"),), (way("none", (), "num", (
        ("get", 0), ("num", 1), ("num", 2), ("call", "Low", "go"), ("give",))),)),
    kind("Holds", "Main", (), (("c", "Main"),), (way("own", (), "num", WRONG),)),
    kind("Plain", ways=(way("go", (), "num", ECHO),)),
    face("Face", (("none", (), "num"),)),
])


class Begin(unittest.TestCase):

    def test_an_own_way_and_one_from_above(self):
        for machine in MACHINES:
            run = Run(HOUSE, "Low", "go", (3, -4), machine=machine)
            self.assertEqual(run.frames(), [("Main", "go", 0, 0, ("-",) * 8, ())])
            self.assertEqual(run.machine(), machine)
            self.assertEqual((run.made(), run.events(), run.said()), (1, 0, []))
            self.assertEqual(run.kept(), [])
            self.assertEqual(run.house(), HOUSE)
            own = Run(HOUSE, "Plain", "go", machine=machine)
            self.assertEqual(own.frames(), [("Plain", "go", 0, 0, ("-",) * 8, ())])

    def test_what_lies_in_the_boxes_at_first(self):
        rows = tuple(("get", at) for at in range(7)) + (("drop",),) * 7 + (("num", 0), ("give",))
        for machine in MACHINES:
            run = run_of(*rows, numbers=(1, 2, 3, 4, 5), fields=(("a", "num"), ("b", "num")), machine=machine)
            self.assertEqual(run.frames(), [("Main", "go", 0, 0, (("thing", 1), 1, 2, 3, 4, 5, None, "-"), ())])
            self.assertEqual(run.kept(), [1])
            self.assertEqual(run.thing(1), ("Main", (0, 0)))

    def test_fields_from_above_are_nought_too(self):
        for machine in MACHINES:
            run = Run(HOUSE, "Low", "none", machine=machine)
            self.assertEqual(run.frames(), [("Low", "none", 0, 0, (("thing", 1),) + ("-",) * 7, ())])
            self.assertEqual(run.thing(1), ("Low", (0, 0, 0)))

    def test_numbers_are_brought_in(self):
        top, low = 999999999999, -1000000000000
        for number, told in (
            (top, top), (top + 1, low), (low, low), (low - 1, top), (2 * 10 ** 12, 0), (-2 * 10 ** 12, 0), (3 * 10 ** 12, low),
            (5 * 10 ** 12 + 7, low + 7), (-(10 ** 40) - 3, -3), (10 ** 40 + 3, 3),
        ):
            for machine in MACHINES:
                run = run_of(("ask",), ("say",), ("get", 1), ("give",), numbers=(number,), machine=machine)
                self.assertEqual(run.frames()[0][4][1], told)
                run.go()
                self.assertEqual(run.answer(number), ("gave", told))
                self.assertEqual(run.said(), [told])


class Refused(unittest.TestCase):

    def word(self, wanted, *told, **named):
        self.assertEqual(refusal(Run, HOUSE, *told, **named), (NoRun, wanted) if wanted else None, (told, named))

    def test_each_word(self):
        self.word(None, "Main", "go", (1, 2))
        for name in ("Nobody", "", "num", "Face"):
            self.word("kind", name, "go", (1, 2))
        self.word("fields", "Holds", "go", (1, 2))
        for name in ("nothing", "", "own"):
            self.word("way", "Main", name, (1, 2))
        for numbers in ((), (1,), (1, 2, 3)):
            self.word("takes", "Main", "go", numbers)
        self.word("takes", "Main", "wants", (1,))
        self.word("takes", "Main", "none", (1,))
        for machine in ("quick", "planned"):
            self.word("free", "Main", "go", (1, 2), machine=machine, free=True)
        self.word(None, "Main", "go", (1, 2), machine="careful", free=True)
        for machine in MACHINES:
            self.word("barred", "Main", "wrong", (1,), machine=machine)
        self.word(None, "Main", "wrong", (1,), free=True)

    def test_several_at_once(self):
        self.word("kind", "Face", "nothing", (1,) * 9, free=True, machine="quick")
        self.word("fields", "Holds", "nothing", (1,) * 9, free=True, machine="quick")
        self.word("fields", "Holds", "own", (1,) * 9)
        self.word("way", "Main", "nothing", (1,) * 9, free=True, machine="quick")
        self.word("takes", "Main", "wrongs", (1,), free=True, machine="quick")
        self.word("takes", "Main", "wrong", (), free=True, machine="quick")
        self.word("takes", "Main", "wrong", ())
        self.word("free", "Main", "wrong", (1,), free=True, machine="planned")

    def test_fields_and_ways_from_above_count(self):
        house = House([
            kind("Top", fields=(("a", "Top"),)), kind("Low", "Top", ways=(way("go", rows=ECHO),)),
            kind("Base", ways=(way("go", rows=ECHO), way("to", rows=ECHO))), kind("Sub", "Base", ways=(way("go", rows=WRONG),)),
        ])
        self.assertEqual(refusal(Run, house, "Low", "go"), (NoRun, "fields"))
        self.assertIsNone(refusal(Run, house, "Sub", "to"))
        self.assertEqual(refusal(Run, house, "Sub", "go"), (NoRun, "barred"))
        self.assertIsNone(refusal(Run, house, "Base", "go"))

    def test_ways_that_it_calls_need_not_be_let_by(self):
        house = house_of(("get", 0), ("call", "Main", "bad"), ("give",), ways=(way("bad", (), "num", WRONG),))
        self.assertEqual(Run(house, "Main", "go").go(), ("fault", 4))


class Plans(unittest.TestCase):

    def bad(self, told, plans, *, kind_name="Main", name="go", numbers=(1, 2), **named):
        for machine in MACHINES:
            found = refusal(Run, HOUSE, kind_name, name, numbers, machine=machine, plans=plans, **named)
            self.assertEqual(found, told, machine)

    GO = ("Main", "go", plan_of(HOUSE, "Main", "go"))
    NONE = ("Main", "none", plan_of(HOUSE, "Main", "none"))
    LOW = ("Low", "none", plan_of(HOUSE, "Low", "none"))
    WORSE = ("Main", "go", [(0, [], [])])

    def test_plans_that_hold(self):
        for plans in ([], [self.GO], [self.NONE, self.LOW, self.GO], (self.GO,)):
            self.bad(None, plans)

    def test_a_plan_that_does_not_hold(self):
        self.bad((BadPlan, "Main", "go"), [self.WORSE])
        self.bad((BadPlan, "Main", "go"), [self.NONE, self.WORSE])
        self.bad((BadPlan, "Main", "none"), [self.LOW, ("Main", "none", []), self.WORSE])
        # Of another way, or of one that has none.
        self.bad((BadPlan, "Low", "none"), [("Low", "none", self.NONE[2])])
        self.bad((BadPlan, "Main", "wrong"), [self.GO, ("Main", "wrong", self.GO[2])])
        self.bad((BadPlan, "Main", "wrong"), [self.GO, ("Main", "wrong", [])])

    def test_a_plan_for_no_way_that_stands_there(self):
        plan = self.GO[2]
        for kind_name, name in (
            ("Nobody", "go"), ("Face", "none"), ("Main", "nothing"), ("Low", "go"), ("Low", "wants"), ("Plain", "none"), ("", ""),
        ):
            self.bad((BadPlan, kind_name, name), [self.GO, (kind_name, name, plan), self.WORSE])

    # Another plan of `go` that holds, with a needless step.
    MORE = ("Main", "go", [(entry, pairs, [("set", 15, ("num", 9))] + steps) for entry, pairs, steps in GO[2]])

    def bad_for_one_body(self, told, plans):
        """Likewise, and of a free run, too, and whatever stands ahead of the plans or behind them and holds."""
        for more in (plans, [self.NONE, *plans], [*plans, self.LOW], [self.LOW, *plans, self.NONE]):
            self.bad(told, more)
            self.assertEqual(refusal(Run, HOUSE, "Main", "go", (1, 2), free=True, plans=more), told)
            self.assertEqual(refusal(Run, HOUSE, "Main", "wrong", (1,), free=True, plans=more), told)

    def test_several_for_one_body_that_hold(self):
        self.assertNotEqual(self.GO, self.MORE)
        for plans in ([self.GO, self.GO], [self.GO, self.MORE], [self.MORE, self.GO], [self.GO] * 3, [self.MORE, self.GO, self.GO],
                      [self.GO, self.MORE, self.GO], [self.GO, self.GO, self.MORE], [self.GO, self.NONE, self.GO],
                      [self.GO, self.NONE, self.MORE, self.NONE, self.LOW, self.LOW, self.GO]):
            self.bad_for_one_body(None, plans)

    def test_several_for_one_body_of_which_one_does_not_hold(self):
        for plans in ([self.GO, self.WORSE], [self.WORSE, self.GO], [self.WORSE, self.WORSE], [self.GO, self.GO, self.WORSE],
                      [self.GO, self.WORSE, self.MORE], [self.WORSE, self.MORE, self.GO], [self.GO, self.NONE, self.WORSE],
                      [self.GO, self.GO, self.WORSE, ("Main", "none", [])], [self.GO, self.WORSE, ("Nobody", "go", [])]):
            self.bad_for_one_body((BadPlan, "Main", "go"), plans)
        # The first one that is bad is told, not the second one for a body.
        self.bad_for_one_body((BadPlan, "Nobody", "go"), [self.GO, ("Nobody", "go", []), self.GO])
        self.bad_for_one_body((BadPlan, "Nobody", "go"), [self.GO, self.NONE, self.GO, ("Nobody", "go", []), self.WORSE])
        self.bad_for_one_body((BadPlan, "Main", "none"), [self.GO, self.MORE, self.NONE, ("Main", "none", []), self.WORSE])
        # Twice for no way that stands there.
        self.bad_for_one_body((BadPlan, "Low", "go"), [self.GO, ("Low", "go", self.GO[2]), ("Low", "go", self.GO[2])])

    def test_several_for_one_body_behind_each_word(self):
        for plans in ([self.GO, self.GO], [self.GO, self.WORSE], [self.WORSE, self.GO]):
            self.bad((NoRun, "kind"), plans, kind_name="Face")
            self.bad((NoRun, "way"), plans, name="nothing")
            self.bad((NoRun, "takes"), plans, numbers=(1,))
            self.bad((NoRun, "barred"), plans, name="wrong", numbers=(1,))
            self.assertEqual(refusal(Run, HOUSE, "Main", "go", (1, 2), free=True, machine="planned", plans=plans), (NoRun, "free"))

    def test_behind_each_word(self):
        for word, kind_name, name, numbers, free in (
            ("kind", "Face", "go", (), False), ("fields", "Holds", "go", (1, 2), False), ("way", "Main", "nothing", (), False),
            ("takes", "Main", "go", (1,), False), ("barred", "Main", "wrong", (1,), False),
        ):
            self.bad((NoRun, word), [self.WORSE], kind_name=kind_name, name=name, numbers=numbers, free=free)
        self.assertEqual(refusal(Run, HOUSE, "Main", "go", (1, 2), free=True, machine="quick", plans=[self.WORSE]), (NoRun, "free"))
        self.assertEqual(refusal(Run, HOUSE, "Main", "wrong", (1,), free=True, plans=[self.WORSE]), (BadPlan, "Main", "go"))


class Asks(unittest.TestCase):

    def test_no_ask_ahead_of_the_first_go_and_behind_the_end(self):
        for machine in MACHINES:
            run = run_of(*ECHO, machine=machine)
            # Row 0 is an ask, but the run stands at it only when it has come to it.
            self.assertEqual(refusal(run.answer, 1), (NoAsk,))
            self.assertEqual((run.events(), run.said()), (0, []))
            self.assertEqual(run.go(), ("ask",))
            self.assertEqual(run.events(), 1)
            self.assertEqual(run.answer(7), ("ask",))
            self.assertEqual(run.answer(8), ("gave", 8))
            self.assertEqual(refusal(run.answer, 1), (NoAsk,))
            self.assertEqual((run.go(), run.said(), run.events()), (("gave", 8), [7], 3))

    def test_go_tells_the_same_again(self):
        for machine in MACHINES:
            run = run_of(*ECHO, machine=machine)
            for told, number in ((("ask",), 5), (("ask",), 6), (("gave", 6), None)):
                for _ in range(3):
                    self.assertEqual(run.go(), told)
                if number is not None:
                    run.answer(number)

    def test_lists_are_the_askers_own(self):
        for machine in MACHINES:
            run = run_of(("num", 3), ("say",), ("get", 0), ("ask",), ("drop",), ("give",), gives="Main", machine=machine)
            run.go()
            for asked in (run.said, run.frames, run.kept):
                held = list(asked())
                self.assertEqual(len(held), 1)
                asked().clear()
                self.assertEqual(asked(), held)

    def test_what_is_handed_in_is_kept_as_it_was(self):
        plan = plan_of(HOUSE, "Main", "go")
        plans = [("Main", "go", plan)]
        run = Run(HOUSE, "Main", "go", (1, 2), machine="planned", plans=plans)
        self.assertEqual(plans, [("Main", "go", plan_of(HOUSE, "Main", "go"))])
        for _, pairs, steps in plan:
            pairs.clear()
            steps.clear()
        plan.clear()
        plans.clear()
        self.assertEqual([run.go(), run.answer(3), run.answer(4)], [("ask",), ("ask",), ("gave", 4)])


class Form(unittest.TestCase):

    def test_each_method_is_defined_in_the_class_itself(self):
        for name in ("go answer said events made frames kept thing house edition exchange machine on double").split():
            self.assertIn(name, vars(Run))
        self.assertEqual(Run.__module__, "strangemill.runs")


if __name__ == "__main__":
    unittest.main()
