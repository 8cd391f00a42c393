"""[39], [40]: the machines, runs that are moved between them, plans that are handed in, and doubles."""

import unittest

from refusals import refusal
from run_rules import told_of
from run_samples import MACHINES, house_of
from samples import kind, way
from strangemill.errors import NoAsk, NoRun, NoThing
from strangemill.house import House
from strangemill.plans import plan_of
from strangemill.runs import Run

PAIR = kind("Pair", fields=(("left", "num"), ("next", "Thing")))
STEP = way("step", ("num", "Thing"), "num", (
    ("get", 1), ("num", 7), ("ask",), ("get", 2), ("put", 3), ("plus",), ("plus",), ("nought", 13), ("get", 3), ("drop",), ("ask",), ("say",),
    ("jump", 14), ("jump", 16), ("get", 1), ("give",), ("num", 99), ("throw",)), ((13, 0), (14, 0), (16, 0)))
# Goes round, makes a thing each time, and asks the way step of itself.
ROUND = (
    ("get", 1), ("nought", 20), ("get", 1), ("num", 1), ("minus",), ("put", 1),
    ("num", 3), ("get", 0), ("get", 1), ("new", "Thing"), ("twin",), ("put", 2), ("call", "Main", "step"), ("plus",), ("say",),
    ("get", 2), ("get", 2), ("same",), ("say",), ("jump", 0), ("ask",), ("give",),
    ("say",), ("jump", 0),
)
HOUSE = house_of(*ROUND, entries=((0, 0), (20, 0), (22, 1)), catches=((12, 13, 22),), takes=("num",), ways=(STEP,), others=(kind("Thing"), PAIR))


def answers(run, numbers):
    """All that a run tells while it is given these answers."""
    told = [(run.frames(), run.kept(), run.go())]
    for number in numbers:
        told.append(told_of(run))
        if run.go() != ("ask",):
            break
        told.append(run.answer(number))
    return told + [told_of(run)]


NUMBERS = ((1, 2, 3, 4, 5, 6, 7, 8), (-7, -9, 0, 4, 1), (-9, 5, -8, 5, -7, 5), (3, -6, 2, 2, 2, 2))


class Machines(unittest.TestCase):

    def test_each_tells_the_same(self):
        ends = set()
        for numbers in NUMBERS:
            for first in (0, 1, 3):
                for most in (400, 17, 9, 4, 1):
                    told = [answers(Run(HOUSE, "Main", "go", (first,), machine=machine, most=most), numbers) for machine in MACHINES]
                    self.assertEqual(told[0], told[1])
                    self.assertEqual(told[0], told[2])
                    ends.add(told[0][-1][0][0])
        self.assertEqual(ends, {"gave", "long", "ask"})

    def test_moved_between_machines_at_each_ask(self):
        for numbers in NUMBERS:
            wanted = answers(Run(HOUSE, "Main", "go", (3,)), numbers)
            for first in MACHINES:
                for turn in range(9):
                    run = Run(HOUSE, "Main", "go", (3,), machine=first)
                    told = [(run.frames(), run.kept(), run.go())]
                    for at, number in enumerate(numbers):
                        told.append(told_of(run))
                        if run.go() != ("ask",):
                            break
                        machine = MACHINES[(at * (turn // 3) + turn) % 3]
                        self.assertIsNone(run.on(machine))
                        self.assertEqual(run.machine(), machine)
                        self.assertEqual(told_of(run), told[-1])
                        told.append(run.answer(number))
                    self.assertEqual(told + [told_of(run)], wanted)

    def test_on_the_one_on_which_it_is(self):
        for machine in MACHINES:
            run = Run(HOUSE, "Main", "go", (1,), machine=machine)
            run.go()
            for _ in range(2):
                run.on(machine)
            self.assertEqual(run.machine(), machine)
            self.assertEqual(run.answer(4), ("ask",))

    def test_on_at_no_ask(self):
        for machine in MACHINES:
            for other in MACHINES:
                run = Run(HOUSE, "Main", "go", (0,), machine=machine)
                self.assertEqual(refusal(run.on, other), (NoAsk,))
                run.go()
                run.answer(5)
                self.assertEqual(run.go(), ("gave", 5))
                self.assertEqual(refusal(run.on, other), (NoAsk,))
                self.assertEqual(run.machine(), machine)
        run = Run(HOUSE, "Main", "go", (0,), free=True)
        self.assertEqual(refusal(run.on, "quick"), (NoAsk,))
        run.go()
        self.assertEqual(refusal(run.on, "quick"), (NoRun, "free"))
        self.assertEqual(refusal(run.on, "careful"), (NoRun, "free"))


# A plan of `step` that holds, written otherwise than the told one: other registers, things done early, twice and for nothing.
STRANGE = [
    (0, [(("box", 1), 12), (("box", 2), 4)], [
        ("set", 0, ("num", 7)), ("set", 1, ("reg", 4)),
        ("do", 2, [], 2, [], [(("box", 1), ("reg", 12)), (("box", 2), ("reg", 1)), (("stack", 0), ("reg", 12)), (("stack", 1), ("reg", 0))]),
        ("do", 5, [("reg", 0), ("reg", 2)], 15, [], []), ("do", 6, [("reg", 12), ("reg", 15)], 14, [], []),
        ("do", 5, [("num", 7), ("reg", 2)], 13, [], []), ("do", 6, [("reg", 12), ("reg", 13)], 14, [], []),
        ("nought", ("reg", 14), 13, [(9, ("reg", 14)), (12, ("num", 5))]),
        ("do", 10, [], 3, [], [(("box", 1), ("reg", 12))]),
        ("set", 4, ("reg", 3)), ("do", 11, [("reg", 4)], None, [], []),
        ("to", 14, [(0, ("reg", 12)), (12, ("num", 0)), (5, ("reg", 0))])]),
    (13, [], [("set", 3, ("num", 1)), ("to", 16, [])]),
    (14, [(("box", 1), 0)], [("set", 12, ("reg", 0)), ("give", ("reg", 12))]),
    (16, [], [("throw", ("num", 99), [])]),
]


TOLD = plan_of(HOUSE, "Main", "step")
GO = plan_of(HOUSE, "Main", "go")
# Several plans for one body, all of which hold, alone and mixed with those for another body.
SEVERAL = [
    [("Main", "step", plan) for plan in plans]
    for plans in ((TOLD, TOLD), (TOLD, STRANGE), (STRANGE, TOLD), (STRANGE, TOLD, TOLD), (TOLD, STRANGE, TOLD), (TOLD, TOLD, STRANGE))
] + [
    [("Main", "go", GO), ("Main", "step", STRANGE), ("Main", "go", GO), ("Main", "step", TOLD)],
    [("Main", "step", TOLD), ("Main", "go", GO), ("Main", "step", STRANGE), ("Main", "step", TOLD), ("Main", "go", GO), ("Main", "go", GO)],
]


class Handed(unittest.TestCase):

    def test_runs_by_plans_that_are_handed_in(self):
        handed = [("Main", "step", STRANGE)]
        for numbers in NUMBERS:
            for most in (400, 9):
                wanted = answers(Run(HOUSE, "Main", "go", (3,), most=most), numbers)
                for machine in MACHINES:
                    for plans in (handed, handed + [("Main", "go", plan_of(HOUSE, "Main", "go"))]):
                        self.assertEqual(answers(Run(HOUSE, "Main", "go", (3,), most=most, machine=machine, plans=plans), numbers), wanted)

    def test_moved_to_a_plan_that_was_handed_in_and_back(self):
        for numbers in NUMBERS:
            wanted = answers(Run(HOUSE, "Main", "go", (3,)), numbers)
            for turn in range(3):
                run = Run(HOUSE, "Main", "go", (3,), plans=[("Main", "step", STRANGE)], machine=MACHINES[turn])
                told = [(run.frames(), run.kept(), run.go())]
                for at, number in enumerate(numbers):
                    told.append(told_of(run))
                    if run.go() != ("ask",):
                        break
                    run.on(MACHINES[(turn + at) % 3])
                    told.append(run.answer(number))
                self.assertEqual(told + [told_of(run)], wanted)

    def test_several_for_one_body(self):
        # A run goes by any of them, and tells the same.
        for plans in SEVERAL:
            for numbers in NUMBERS:
                for most in (400, 9):
                    wanted = answers(Run(HOUSE, "Main", "go", (3,), most=most), numbers)
                    for machine in MACHINES:
                        self.assertEqual(answers(Run(HOUSE, "Main", "go", (3,), most=most, machine=machine, plans=plans), numbers), wanted)
                    self.assertEqual(answers(Run(HOUSE, "Main", "go", (3,), most=most, free=True, plans=plans), numbers), wanted)

    def test_several_for_one_body_moved_doubled_and_exchanged(self):
        for plans in SEVERAL:
            for numbers in NUMBERS:
                for turn in range(3):
                    run, other = Run(HOUSE, "Main", "go", (3,), machine=MACHINES[turn], plans=plans), Run(HOUSE, "Main", "go", (3,))
                    for at, number in enumerate(numbers):
                        self.assertEqual(told_of(run), told_of(other))
                        if run.go() != ("ask",):
                            break
                        run = run.double()
                        run.on(MACHINES[(turn + at) % 3])
                        if at == 2:
                            run.exchange([])
                            other.exchange([])
                        self.assertEqual(run.answer(number), other.answer(number))
                    self.assertEqual(told_of(run), told_of(other))

    def test_several_for_one_body_are_kept_as_they_were(self):
        told = plan_of(HOUSE, "Main", "step")
        plans = [("Main", "step", told), ("Main", "step", told), ("Main", "step", STRANGE)]
        run = Run(HOUSE, "Main", "go", (3,), machine="planned", plans=plans)
        self.assertEqual(plans, [("Main", "step", plan_of(HOUSE, "Main", "step"))] * 2 + [("Main", "step", STRANGE)])
        plans.clear()
        told.clear()
        self.assertEqual(answers(run, NUMBERS[0]), answers(Run(HOUSE, "Main", "go", (3,)), NUMBERS[0]))

    def test_an_exchange_forgets_them(self):
        for machine in MACHINES:
            run = Run(HOUSE, "Main", "go", (3,), plans=[("Main", "step", STRANGE)], machine=machine)
            other = Run(HOUSE, "Main", "go", (3,))
            run.go(), other.go()
            for number in (3, -6, 2, 2, 2, 2):
                run.exchange([])
                other.exchange([])
                self.assertEqual(told_of(run), told_of(other))
                self.assertEqual(run.answer(number), other.answer(number))
            self.assertEqual(told_of(run), told_of(other))


class Double(unittest.TestCase):

    def test_it_stands_as_the_run_does(self):
        for machine in MACHINES:
            for plans in ([], [("Main", "step", STRANGE)]):
                run = Run(HOUSE, "Main", "go", (3,), machine=machine, plans=plans, most=30, room=50)
                other = run.double()
                self.assertEqual((run.frames(), run.kept()), (other.frames(), other.kept()))
                for number in (1, 2, 3, 4, 5, 6, 7, 8):
                    self.assertEqual(told_of(other), told_of(run))
                    self.assertEqual((other.machine(), other.house()), (machine, HOUSE))
                    if run.go() != ("ask",):
                        break
                    self.assertEqual(other.answer(number), run.answer(number))
                    # The double goes on in the place of the run, and is doubled in its turn.
                    run, other = other, other.double()
                self.assertEqual(run.go(), ("gave", 7))

    def test_what_is_done_in_the_one_changes_nothing_in_the_other(self):
        for machine in MACHINES:
            run = Run(HOUSE, "Main", "go", (3,), machine=machine)
            run.go()
            run.answer(3)
            held = told_of(run)
            other = run.double()
            other.answer(-5)
            other.answer(6)
            other.exchange([kind("Thing", ways=(way("more"),)), kind("New")], out=("Pair",))
            other.on("quick")
            self.assertEqual(told_of(run), held)
            self.assertEqual((run.machine(), run.house(), run.edition("Thing")), (machine, HOUSE, 0))
            self.assertEqual((len(other.house()), other.edition("Thing"), other.edition("New")), (3, 1, 0))
            held = told_of(other)
            run.answer(1)
            self.assertEqual(told_of(other), held)

    def test_things_are_each_ones_own(self):
        rows = (("get", 0), ("ask",), ("write", "Main", "a"), ("get", 0), ("read", "Main", "a"), ("ask",), ("plus",), ("get", 0), ("read", "Main", "a"),
                ("plus",), ("give",))
        for machine in MACHINES:
            run = Run(house_of(*rows, fields=(("a", "num"),)), "Main", "go", machine=machine)
            run.go()
            other = run.double()
            run.answer(5)
            self.assertEqual((run.thing(1), other.thing(1)), (("Main", (5,)), ("Main", (0,))))
            other.answer(7)
            self.assertEqual((run.thing(1), other.thing(1)), (("Main", (5,)), ("Main", (7,))))
            self.assertEqual((run.answer(0), other.answer(0)), (("gave", 10), ("gave", 14)))

    def test_ahead_of_go_and_behind_the_end(self):
        for machine in MACHINES:
            run = Run(HOUSE, "Main", "go", (0,), machine=machine)
            other = run.double()
            self.assertEqual(refusal(other.answer, 1), (NoAsk,))
            run.go()
            run.answer(4)
            self.assertEqual(run.double().go(), ("gave", 4))
            self.assertEqual(refusal(run.double().thing, 1), (NoThing, 1))
            self.assertEqual(other.go(), ("ask",))
            self.assertEqual(other.machine(), machine)

    def test_behind_exchanges(self):
        for machine in MACHINES:
            run = Run(HOUSE, "Main", "go", (2,), machine=machine)
            run.go()
            newer = HOUSE.unit_of("Main")[:5] + ((HOUSE.unit_of("Main")[5][0], way("step", ("num", "Thing"), "num", (("num", 50), ("ask",), ("plus",), ("give",)))),)
            run.exchange([newer])
            other = run.double()
            self.assertEqual((other.house(), other.edition("Main")), (run.house(), 1))
            for number in (4, 5, 6, 7):
                self.assertEqual(told_of(run), told_of(other))
                self.assertEqual(run.answer(number), other.answer(number))
            self.assertEqual(House(other.house().units()), run.house())


if __name__ == "__main__":
    unittest.main()
