"""[36] to [38]: the second look, at plans whoever wrote them."""

import random
import unittest

from plan_chance import mutated, other_plan, renamed
from plan_rules import plan_holds_by_rules
from run_samples import MACHINES, house_of
from samples import kind, way
from strangemill.planlook import plan_holds
from strangemill.plans import plan_of
from strangemill.runs import Run
from way_chance import Houses, bodies_of

HOUSE = house_of(
    ("get", 1), ("get", 2), ("plus",), ("twin",), ("nought", 10), ("get", 1), ("part",), ("ask",), ("minus",), ("jump", 10),
    ("say",), ("get", 1), ("give",), ("throw",), entries=((10, 1), (13, 1)), catches=((6, 7, 13),), takes=("num", "num"))

MAP0 = [(("box", 1), 1), (("box", 2), 2)]
MAP10 = [(("box", 1), 1), (("stack", 0), 8)]
MAP13 = [(("stack", 0), 8)]
PLUS = ("do", 2, [("reg", 1), ("reg", 2)], 0, [], [])
NOUGHT = ("nought", ("reg", 0), 10, [(8, ("reg", 0))])
PART = ("do", 6, [("reg", 0), ("reg", 1)], 3, [(8, ("fault",))], [])
ASK = ("do", 7, [], 4, [], [(("box", 1), ("reg", 1)), (("stack", 0), ("reg", 3))])
MINUS = ("do", 8, [("reg", 3), ("reg", 4)], 5, [], [])
TO = ("to", 10, [(8, ("reg", 5))])
STEPS0 = [PLUS, NOUGHT, PART, ASK, MINUS, TO]
SAY = ("do", 10, [("reg", 8)], None, [], [])
GIVE = ("give", ("reg", 1))
THROW = ("throw", ("reg", 8), [])


def plan(steps0=None, *, map0=None, map10=None, steps10=None, map13=None, steps13=None):
    return [(0, map0 or MAP0, steps0 or STEPS0), (10, map10 or MAP10, steps10 or [SAY, GIVE]), (13, map13 or MAP13, steps13 or [THROW])]


class Look(unittest.TestCase):

    def holds(self, told, wanted, house=HOUSE):
        self.assertIs(plan_holds(house, "Main", "go", told), wanted, told)
        if wanted:
            self.assertTrue(plan_holds_by_rules(house, "Main", "go", told))
            self.runs(told, house)

    def runs(self, told, house):
        """By a plan that holds a run tells what it tells without."""
        for numbers in ((0, 0), (3, -3), (7, 2), (0, 5)):
            ends = []
            for plans in ([], [("Main", "go", told)]):
                for machine in MACHINES:
                    run = Run(house, "Main", "go", numbers, plans=plans, machine=machine)
                    heard = [run.go()]
                    while run.go() == ("ask",):
                        heard += [run.frames(), run.answer(4)]
                    ends.append((heard, run.said(), run.events()))
            self.assertTrue(all(end == ends[0] for end in ends), ends)


class Steps(Look):

    def steps(self, wanted, *steps):
        self.holds(plan(list(steps)), wanted)

    def test_the_plan(self):
        self.holds(plan(), True)
        self.steps(True, *STEPS0)

    def test_a_step_out_or_twice(self):
        for at in range(len(STEPS0)):
            self.steps(False, *STEPS0[:at], *STEPS0[at + 1:])
            again = STEPS0[at] in (PLUS, MINUS)
            self.steps(again, *STEPS0[:at + 1], *STEPS0[at:])
        self.holds(plan(steps10=[GIVE]), False)
        self.holds(plan(steps10=[SAY, SAY, GIVE]), False)
        self.holds(plan(steps10=[SAY, GIVE, GIVE]), False)
        self.holds([(0, MAP0, []), (10, MAP10, [SAY, GIVE]), (13, MAP13, [THROW])], False)

    def test_steps_turned_about(self):
        self.steps(False, NOUGHT, PLUS, PART, ASK, MINUS, TO)
        self.steps(False, PLUS, PART, NOUGHT, ASK, MINUS, TO)
        self.steps(False, PLUS, NOUGHT, ASK, PART, MINUS, TO)
        self.steps(False, PLUS, NOUGHT, PART, MINUS, ASK, TO)
        self.steps(False, PLUS, NOUGHT, PART, ASK, TO, MINUS)

    def test_nothing_stands_behind_the_end(self):
        for more in (PLUS, ("set", 9, ("num", 1)), TO, GIVE):
            self.steps(False, *STEPS0, more)

    def test_sets(self):
        more = ("set", 9, ("reg", 1)), ("set", 15, ("num", 0)), ("set", 6, ("reg", 9)), ("set", 9, ("num", -1000000000000))
        self.steps(True, *more, *STEPS0)
        self.steps(True, *STEPS0[:-1], *more, TO)
        self.steps(True, PLUS, ("set", 9, ("reg", 0)), ("set", 0, ("num", 0)), ("nought", ("reg", 9), 10, [(8, ("reg", 9))]),
                   ("do", 6, [("reg", 9), ("reg", 1)], 3, [(8, ("fault",))], []), ASK, MINUS, TO)
        # A register that is needed still has another term then.
        self.steps(False, ("set", 1, ("num", 0)), *STEPS0)
        self.steps(False, PLUS, ("set", 0, ("reg", 1)), *STEPS0[1:])
        for source in (("reg", 0), ("reg", 16), ("reg", -1), ("fault",), ("num", 1000000000000), ("num", -1000000000001), ("reg", "1"),
                       ("num", "1"), ("", 1), ("box", 1), ("set", 1), ("reg",), ("num",), (), ("reg", 1, 1)):
            self.steps(False, ("set", 9, source), *STEPS0)
        for number in (-1, 16, 10 ** 30, None):
            self.steps(False, ("set", number, ("num", 1)), *STEPS0)

    def test_quiet_rows(self):
        # Earlier, later, into another register, once more, by sources that have the terms.
        self.steps(True, ("set", 7, ("reg", 2)), ("do", 2, [("reg", 1), ("reg", 7)], 0, [], []), *STEPS0[1:])
        self.steps(True, PLUS, ("do", 2, [("reg", 1), ("reg", 2)], 12, [], []), *STEPS0[1:])
        self.steps(True, *STEPS0[:3], ASK, PLUS, MINUS, TO)
        for sources in (
            [("reg", 2), ("reg", 1)], [("reg", 1), ("reg", 1)], [("reg", 1)], [], [("reg", 1), ("reg", 2), ("reg", 2)], [("reg", 1), ("num", 0)],
            [("reg", 1), ("fault",)], [("reg", 1), ("reg", 3)], [("reg", 1), ()],
        ):
            self.steps(False, ("do", 2, sources, 0, [], []), *STEPS0[1:])
        for number in (None, -1, 16, 100):
            self.steps(False, ("do", 2, PLUS[2], number, [], []), *STEPS0[1:])
        self.steps(False, PLUS[:4] + ([(9, ("num", 1))], []), *STEPS0[1:])
        self.steps(False, PLUS[:5] + ([(("box", 1), ("reg", 1))],), *STEPS0[1:])

    def test_a_row_that_is_none_of_the_block(self):
        for row in (-1, 0, 1, 3, 5, 9, 10, 11, 14, 40, -12, 10 ** 30):
            self.steps(False, ("do", row) + PLUS[2:], *STEPS0[1:])
            self.steps(False, *STEPS0[:2], ("do", row) + PART[2:], *STEPS0[3:])
        other = house_of(("get", 1), ("get", 2), ("plus",), ("jump", 4), ("get", 1), ("get", 2), ("plus",), ("plus",), ("give",),
                         entries=((4, 1),), takes=("num", "num"))
        told = plan_of(other, "Main", "go")
        self.holds(told, True, other)
        # The plus of row 6 takes the like of row 2, but it is of the other block.
        self.holds([(0, told[0][1], [("do", 6) + told[0][2][0][2:]] + told[0][2][1:]), told[1]], False, other)

    def test_a_row_that_no_do_may_name(self):
        # Not in the place of the step that is due there either.
        self.steps(False, PLUS, ("do", 4, [("reg", 0)], None, [], []), PART, ASK, MINUS, TO)
        self.steps(False, *STEPS0[:5], ("do", 9, [], None, [], []))
        self.holds(plan(steps10=[SAY, ("do", 12, [("reg", 1)], None, [], [])]), False)
        self.holds(plan(steps13=[("do", 13, [("reg", 8)], None, [], [])]), False)
        on = house_of(("num", 1), ("drop",), ("get", 1), ("give",), entries=((2, 0),), takes=("num",))
        told = [(0, [(("box", 1), 1)], [("to", 2, [])]), (2, [(("box", 1), 1)], [("give", ("reg", 1))])]
        self.assertIs(plan_holds(on, "Main", "go", told), True)
        for row in (0, 1, 2, 3):
            for sources in ([], [("reg", 1)], [("num", 1)]):
                other = [(0, told[0][1], [("do", row, sources, None, [], [])]), told[1]]
                self.assertIs(plan_holds(on, "Main", "go", other), False, row)

    def test_registers_are_numbered_from_0_to_15(self):
        told = plan([("set", 9, ("reg", 1)), *STEPS0[:-1], ("to", 10, [(1, ("reg", 9)), (8, ("reg", 5))])])
        for old in (0, 1, 2, 3, 4, 5, 8, 9):
            for new, wanted in ((15, True), (14, True), (16, False), (17, False), (-1, False), (-16, False), (10 ** 20, False)):
                numbers = list(range(16))
                numbers[old] = new
                self.holds(renamed(told, numbers), wanted)

    def test_a_quiet_row_behind_the_end(self):
        other = house_of(("get", 1), ("num", 0), ("nought", 5), ("get", 1), ("plus",), ("give",), entries=((5, 1),), takes=("num",))
        told = plan_of(other, "Main", "go")
        steps = told[0][2]
        self.assertIs(plan_holds(other, "Main", "go", told), True)
        early = [("do", 4, [("reg", 1), ("reg", 1)], 3, [], [])] + steps
        self.assertIs(plan_holds(other, "Main", "go", [(0, told[0][1], early), told[1]]), False)


class Deeds(Look):

    def deed(self, wanted, *, part=PART, ask=ASK):
        self.holds(plan([PLUS, NOUGHT, part, ask, MINUS, TO]), wanted)

    def test_sources(self):
        for sources in ([("reg", 1), ("reg", 0)], [("reg", 0)], [], [("reg", 0), ("reg", 1), ("reg", 1)], [("reg", 0), ("num", 1)],
                        [("fault",), ("reg", 1)], [("reg", 0), ("reg", 99)]):
            self.deed(False, part=("do", 6, sources) + PART[3:])
        self.deed(False, ask=("do", 7, [("reg", 1)]) + ASK[3:])

    def test_what_it_brings(self):
        for number in (None, -1, 16, 17):
            self.deed(False, part=PART[:3] + (number,) + PART[4:])
            self.deed(False, ask=ASK[:3] + (number,) + ASK[4:])
        for number in (0, 8, 8):
            self.holds(plan(steps10=[("do", 10, [("reg", 8)], number, [], []), GIVE]), False)
        # Into a register that is needed no more, also one of its own sources.
        self.holds(plan([PLUS, NOUGHT, PART[:3] + (0,) + PART[4:], ASK[:5] + ([(("box", 1), ("reg", 1)), (("stack", 0), ("reg", 0))],),
                         ("do", 8, [("reg", 0), ("reg", 4)], 5, [], []), TO]), True)
        # Not into one that is needed still.
        self.deed(False, part=PART[:3] + (1,) + PART[4:])

    def test_moves_of_a_fault(self):
        for moves, wanted in (
            ([(8, ("fault",))], True), ([], False), ([(8, ("num", 1))], False), ([(8, ("reg", 0))], False), ([(9, ("fault",))], False),
            ([(8, ("fault",)), (9, ("fault",)), (1, ("num", 0)), (2, ("reg", 0))], True), ([(9, ("num", 3)), (8, ("fault",))], True),
            ([(8, ("fault",)), (8, ("fault",))], False), ([(8, ("fault",)), (16, ("num", 1))], False), ([(8, ("fault",)), (-1, ("num", 1))], False),
            ([(8, ("fault",)), (9, ("reg", 3))], False), ([(8, ("fault",)), (9, ("reg", 99))], False), ([(8, ("fault",)), (9, ("none",))], False),
            ([(8, ("fault", 1))], False), ([(8, ("fault",)), (None, ("num", 1))], False),
        ):
            self.deed(wanted, part=PART[:4] + (moves, []))
        # An ask faults never, and a say: no moves.
        self.deed(False, ask=ASK[:4] + ([(9, ("num", 1))], ASK[5]))
        self.deed(False, ask=ASK[:4] + ([(9, ("fault",))], ASK[5]))
        self.holds(plan(steps10=[SAY[:4] + ([(9, ("num", 1))], []), GIVE]), False)

    def test_moves_are_looked_at_with_the_terms_ahead_of_the_row(self):
        house = house_of(("get", 1), ("get", 2), ("part",), ("give",), ("get", 1), ("plus",), ("give",), entries=((4, 1),),
                         catches=((2, 3, 4),), takes=("num", "num"))
        maps = [(("box", 1), 1), (("box", 2), 2)], [(("box", 1), 5), (("stack", 0), 6)]
        last = [("do", 5, [("reg", 6), ("reg", 5)], 0, [], []), ("give", ("reg", 0))]
        for source, wanted in ((("reg", 1), True), (("reg", 2), False), (("reg", 5), False)):
            part = ("do", 2, [("reg", 1), ("reg", 2)], 1, [(5, source), (6, ("fault",))], [])
            self.holds([(0, maps[0], [part, ("give", ("reg", 1))]), (4, maps[1], last)], wanted, house)

    def test_seen(self):
        box, stack = ASK[5]
        for seen, wanted in (
            ([box, stack], True), ([stack, box], False), ([box], False), ([stack], False), ([], False), ([box, stack, stack], False),
            ([box, box, stack], False), ([box, (("box", 2), ("reg", 2)), stack], False), ([box, stack, (("stack", 1), ("reg", 3))], False),
            ([(("box", 2), ("reg", 1)), stack], False), ([(("box", 1), ("reg", 2)), stack], False), ([box, (("stack", 0), ("reg", 0))], False),
            ([box, (("stack", 0), ("fault",))], False), ([box, (("stack", 1), ("reg", 3))], False), ([(("", 1), ("reg", 1)), stack], False),
            ([box, (("stack", 0), ("reg", 4))], False), ([(("box",), ("reg", 1)), stack], False), ([((), ("reg", 1)), stack], False),
        ):
            self.deed(wanted, ask=ASK[:5] + (seen,))
        self.deed(False, part=PART[:5] + ([box, stack],))
        self.deed(False, part=PART[:5] + ([box],))

    def test_seen_by_other_sources_with_the_same_terms(self):
        more = ("set", 11, ("reg", 1))
        told = [more, PLUS, NOUGHT, PART, ASK[:5] + ([(("box", 1), ("reg", 11)), ASK[5][1]],), MINUS, TO]
        self.holds(plan(told), True)

    def test_seen_of_each_deed_that_has_it(self):
        one = way("one", ("num",), "num", (("get", 1), ("give",)))
        for row, takes, has in (
            (("new", "Base"), 1, True), (("call", "Main", "one"), 2, True), (("hail", "Does", "one"), 2, True), (("ask",), 0, True),
            (("part",), 2, False), (("fits", "Main"), 1, False), (("read", "Base", "many"), 1, False), (("say",), 1, False),
            (("write", "Base", "many"), 2, False),
        ):
            things = {"call": "Main", "hail": "Does", "fits": "Main", "read": "Base", "write": "Base"}
            first = ("get", 0) if row[0] in ("call", "fits") else ("get", 2) if row[0] in things else ("get", 1)
            house = house_of(("num", 5), *[first, ("get", 1)][:takes], row, *([] if row[0] in ("say", "write") else [("drop",)]), ("get", 1), ("plus",),
                             ("give",), takes=("num", things.get(row[0], "num")), ways=(one,),
                             others=(kind("Base", fields=(("many", "num"),)), ("face", "Does", (one[:3],))))
            house = house.changed([("kind", "Main", "", ("Does",), ()) + (house.unit_of("Main")[5],)])
            told = plan_of(house, "Main", "go")
            self.assertIs(plan_holds(house, "Main", "go", told), True)
            at = [step[1] if step[0] == "do" else None for step in told[0][2]].index(1 + takes)
            step = told[0][2][at]
            self.assertEqual(step[5], [(("box", 1), ("reg", 1)), (("stack", 0), ("num", 5))] if has else [], row)
            for seen in ([], step[5][:1], step[5][::-1], step[5] + step[5][:1], [(("stack", 0), ("num", 5))], [(("box", 1), ("num", 5))]):
                if seen != step[5]:
                    steps = told[0][2][:at] + [step[:5] + (seen,)] + told[0][2][at + 1:]
                    self.assertIs(plan_holds(house, "Main", "go", [(0, told[0][1], steps)]), False, (row, seen))


class Ends(Look):

    def test_noughts(self):
        def nought(wanted, *step):
            self.holds(plan([PLUS, ("nought",) + step, *STEPS0[2:]]), wanted)

        nought(True, *NOUGHT[1:])
        for source in (("reg", 1), ("num", 0), ("fault",), ("reg", 77), ()):
            nought(False, source, *NOUGHT[2:])
        for entry in (0, 13, 4, 5, -1, 99, None):
            nought(False, ("reg", 0), entry, NOUGHT[3])
        for moves, wanted in (
            ([(8, ("reg", 0)), (1, ("reg", 1))], True), ([(8, ("reg", 0)), (5, ("num", 9))], True), ([], False), ([(8, ("reg", 2))], False),
            ([(8, ("reg", 0)), (1, ("reg", 2))], False), ([(8, ("fault",))], False), ([(8, ("reg", 0)), (9, ("fault",))], False),
            ([(8, ("reg", 0)), (8, ("reg", 0))], False), ([(8, ("num", 0))], False),
        ):
            nought(wanted, ("reg", 0), 10, moves)
        nought(False, ("reg", 0), 10)
        nought(False, ("reg", 0), 10, NOUGHT[3], [])

    def test_to(self):
        def to(wanted, *step):
            self.holds(plan([*STEPS0[:-1], step]), wanted)

        to(True, *TO)
        for entry in (0, 13, 9, 11, -1, None):
            to(False, "to", entry, TO[2])
        for moves, wanted in (
            ([(8, ("reg", 5)), (7, ("num", 1))], True), ([], False), ([(8, ("reg", 3))], False), ([(8, ("reg", 5)), (1, ("num", 1))], False),
            ([(8, ("fault",))], False), ([(8, ("reg", 5)), (7, ("fault",))], False), ([(8, ("reg", 5)), (7, ("reg", 13))], False),
        ):
            to(wanted, "to", 10, moves)
        for step in (("give", ("reg", 5)), ("throw", ("reg", 5), []), ("jump", 10, TO[2]), ("nought", ("num", 0), 10, TO[2]), ("to", 10),
                     ("to",), (), ("to", 10, TO[2], [])):
            to(False, *step)

    def test_all_moves_are_done_at_once(self):
        house = house_of(("get", 1), ("get", 2), ("put", 1), ("put", 2), ("get", 1), ("nought", 8), ("ask",), ("jump", 9), ("ask",), ("drop",),
                         ("jump", 0), entries=((0, 0), (8, 0), (9, 1)), takes=("num", "num"))
        self.assertIs(plan_holds(house, "Main", "go", plan_of(house, "Main", "go")), True)
        house = house_of(("get", 1), ("get", 2), ("put", 1), ("put", 2), ("ask",), ("get", 1), ("minus",), ("get", 2), ("minus",), ("say",),
                         ("jump", 0), entries=((0, 0),), takes=("num", "num"))
        told = plan_of(house, "Main", "go")
        self.assertEqual(told[0][2][-1], ("to", 0, [(1, ("reg", 2)), (2, ("reg", 1))]))
        self.assertIs(plan_holds(house, "Main", "go", told), True)
        ends = []
        for machine in MACHINES:
            run = Run(house, "Main", "go", (3, 50), machine=machine)
            run.go()
            for number in (0, 100, 1000):
                run.answer(number)
            ends.append((run.said(), run.events(), run.frames()))
        self.assertEqual(ends[0][0], [0 - 50 - 3, 100 - 3 - 50, 1000 - 53])
        self.assertTrue(ends[0] == ends[1] == ends[2])

    def test_give_and_throw(self):
        for step, wanted in (
            (GIVE, True), (("give", ("reg", 8)), False), (("give", ("num", 1)), False), (("give", ("fault",)), False), (("give",), False),
            (("give", ("reg", 1), []), False), (("throw", ("reg", 1), []), False), (("to", 10, []), False),
        ):
            self.holds(plan(steps10=[SAY, step]), wanted)
        for step, wanted in (
            (THROW, True), (("throw", ("reg", 1), []), False), (("throw", ("num", 1), []), False), (("throw", ("fault",), []), False),
            (("throw", ("reg", 8), [(8, ("fault",))]), False), (("throw", ("reg", 8), [(9, ("num", 1))]), False), (("throw", ("reg", 8)), False),
            (("give", ("reg", 8)), False),
        ):
            self.holds(plan(steps13=[step]), wanted)

    def test_a_throw_with_a_catch(self):
        house = house_of(("get", 1), ("throw",), ("get", 1), ("plus",), ("give",), entries=((2, 1),), catches=((0, 2, 2),), takes=("num", "num"))
        last = (2, [(("box", 1), 4), (("stack", 0), 3)], [("do", 3, [("reg", 3), ("reg", 4)], 0, [], []), ("give", ("reg", 0))])
        for moves, wanted in (
            ([(3, ("fault",)), (4, ("reg", 9))], True), ([(3, ("fault",))], False), ([(3, ("reg", 9)), (4, ("reg", 9))], False), ([], False),
            ([(3, ("fault",)), (4, ("fault",))], False),
        ):
            self.holds([(0, [(("box", 1), 9)], [("throw", ("reg", 9), moves)]), last], wanted, house)

    def test_numbers_that_come_are_numbers(self):
        house = house_of(("num", 999999999999), ("num", 1), ("plus",), ("num", 2), ("times",), ("say",), ("get", 1), ("give",), takes=("num", "num"))
        pairs = [(("box", 1), 3)]
        for number, wanted in ((0, True), (2000000000000, False), (-2000000000000, False), (2, False)):
            self.holds([(0, pairs, [("do", 5, [("num", number)], None, [], []), ("give", ("reg", 3))])], wanted, house)
        # Done all the same, each register has the number's term.
        steps = [("do", 2, [("num", 999999999999), ("num", 1)], 7, [], []), ("do", 4, [("reg", 7), ("num", 2)], 8, [], []),
                 ("do", 5, [("reg", 8)], None, [], []), ("give", ("reg", 3))]
        self.holds([(0, pairs, steps)], True, house)
        self.holds([(0, pairs, [("set", 7, ("num", -1000000000000))] + steps[1:])], True, house)
        self.holds([(0, pairs, [("set", 7, ("num", -999999999999))] + steps[1:])], False, house)

    def test_the_same_of_numbers_is_never_reckoned(self):
        house = house_of(("get", 0), ("get", 0), ("same",), ("nought", 6), ("num", 1), ("give",), ("num", 2), ("give",), entries=((6, 0),),
                         takes=("num", "num"))
        told = plan_of(house, "Main", "go")
        self.assertEqual([step[0] for step in told[0][2]], ["do", "nought", "give"])
        self.holds(told, True, house)

    def test_terms_that_are_alike(self):
        # Rows 2 and 5 bring one term, so one of them may be done for both; 8 brings another one.
        house = house_of(("get", 1), ("get", 2), ("plus",), ("get", 1), ("get", 2), ("plus",), ("get", 2), ("get", 1), ("plus",), ("say",), ("say",),
                         ("give",), takes=("num", "num"))
        pairs = [(("box", 1), 1), (("box", 2), 2)]

        def told(first, second, third, *dos):
            return [(0, pairs, [*dos, ("do", 9, [("reg", first)], None, [], []), ("do", 10, [("reg", second)], None, [], []),
                                ("give", ("reg", third))])]

        one, two = ("do", 2, [("reg", 1), ("reg", 2)], 5, [], []), ("do", 5, [("reg", 1), ("reg", 2)], 5, [], [])
        other = ("do", 8, [("reg", 2), ("reg", 1)], 6, [], [])
        self.holds(told(6, 5, 5, one, other), True, house)
        self.holds(told(6, 5, 5, other, two), True, house)
        self.holds(told(6, 5, 5, other, two, one), True, house)
        self.holds(told(5, 5, 5, one, two), False, house)
        self.holds(told(6, 6, 5, one, other), False, house)

    def test_terms_that_grow_without_end(self):
        rows = [("get", 1)] + [("twin",), ("times",)] * 18 + [("give",)]
        house = house_of(*rows, takes=("num", "num"))
        told = plan_of(house, "Main", "go")
        self.holds(told, True, house)
        steps = told[0][2]
        self.assertIs(plan_holds(house, "Main", "go", [(0, told[0][1], steps[:9] + steps[10:])]), False)


class Blocks(Look):

    def test_a_block_more_less_twice_or_out_of_order(self):
        first, second, third = plan()
        for blocks in ([first, second], [first, third], [second, third], [first], [], [second, first, third], [first, third, second],
                       [first, first, second, third], [first, second, third, third], [first, second, second, third],
                       [first, second, third, (14, [], [])], [first, (5, [], []), second, third]):
            self.holds(blocks, False)

    def test_entries(self):
        for at in range(3):
            for entry in (-1, 1, 9, 11, 12, 14, 99, 0, 10, 13):
                told = plan()
                told[at] = (entry,) + told[at][1:]
                self.holds(told, entry == plan()[at][0])

    def test_an_entry_that_is_not_come_to_has_no_block(self):
        house = house_of(("num", 1), ("give",), ("num", 2), ("give",), entries=((2, 0),), takes=("num", "num"))
        first = (0, [], [("give", ("num", 1))])
        self.holds([first], True, house)
        self.holds([first, (2, [], [("give", ("num", 2))])], False, house)

    def test_maps(self):
        one, two = MAP0
        for pairs, wanted in (
            (MAP0, True), ([two, one], False), ([one], False), ([two], False), ([], False), ([one, one, two], False),
            ([one, two, (("box", 3), 3)], False), ([one, two, (("stack", 0), 3)], False), ([(("box", 1), 2), two], False),
            ([(("box", 1), 16), two], False), ([(("box", 1), -1), two], False), ([(("box", 0), 1), two], False), ([(("", 1), 1), two], False),
            ([(("box", 1), None), two], False), ([(("box",), 1), two], False), ([((), 1), two], False),
        ):
            self.holds([(0, pairs, STEPS0), *plan()[1:]], wanted)
        for pairs, wanted in (
            (MAP10, True), (MAP10[::-1], False), (MAP10[:1], False), (MAP10[1:], False), ([MAP10[0], (("stack", 1), 8)], False),
            ([MAP10[0], (("stack", 0), 1)], False), (MAP10 + [(("stack", 1), 9)], False),
        ):
            self.holds([plan()[0], (10, pairs, [SAY, GIVE]), plan()[2]], wanted)

    def test_maps_with_other_registers(self):
        # Box 1 in the block of row 10 is register 15, the stack 1.
        swapped = [(("box", 1), 15), (("stack", 0), 1)]
        last = [("do", 10, [("reg", 1)], None, [], []), ("give", ("reg", 15))]
        moves = [(1, ("reg", 0)), (15, ("reg", 1))]
        told = plan([PLUS, ("nought", ("reg", 0), 10, moves), PART, ASK, MINUS, ("to", 10, [(15, ("reg", 1)), (1, ("reg", 5))])],
                    map10=swapped, steps10=last)
        self.holds(told, True)
        self.holds(plan(map10=swapped, steps10=last), False)
        self.holds(plan(STEPS0, map10=swapped), False)

    def test_ways_that_are_not_let_by(self):
        house = house_of(("num", 1), ("give",), ("num", 2), ("give",), entries=((0, 1),), takes=("num", "num"))
        self.holds([(0, [], [("give", ("num", 1))])], False, house)

    def test_other_forms(self):
        for told in (
            [()], [(0,)], [(0, [], [])], [(0, MAP0, STEPS0, [])], [((), (), ())], [("", [], [])], [(0, MAP0, [()])] + plan()[1:],
            [(0, MAP0, [("",)])] + plan()[1:], [(0, MAP0, STEPS0[:-1] + [("",)])] + plan()[1:], [(0, [()], STEPS0)] + plan()[1:],
            [(0, MAP0, [("do",)] + STEPS0[1:])] + plan()[1:], [(0, MAP0, [("set",)] + STEPS0)] + plan()[1:],
        ):
            self.holds(told, False)

    def test_steps_of_other_words(self):
        for word in (
            "", "deed", "quiet", "say", "part", "out", "in", "reg", "fault", "box", "Do", "do", "set", "to", "nought", "give", "throw",
        ):
            for behind in (
                (), (("reg", 8),), (("reg", 8), []), ([("reg", 8)], []), (("reg", 8), 10, []), (10, [("reg", 8)], None, []),
                (("reg", 8), None, [], [], []), (10, ("reg", 8), None, [], []),
            ):
                step = (word, *behind)
                self.holds(plan(steps10=[step, GIVE]), False)
                self.holds(plan(steps10=[SAY, step, GIVE]), False)
                self.holds(plan(steps10=[step, SAY, GIVE]), False)
        # Only with the word, too.
        self.holds(plan(steps10=[("do",) + SAY[1:], GIVE]), True)
        for word in ("", "deed", "quiet", "say", "Do", "set"):
            self.holds(plan(steps10=[(word,) + SAY[1:], GIVE]), False)
            self.holds(plan(steps10=[SAY, (word,) + GIVE[1:]]), False)
            self.holds(plan(steps13=[(word,) + THROW[1:]]), False)
            self.holds(plan(STEPS0[:-1] + [(word,) + TO[1:]]), False)
            self.holds(plan(STEPS0[:1] + [(word,) + NOUGHT[1:]] + STEPS0[2:]), False)

    def test_a_plan_is_left_as_it_is(self):
        told = plan()
        held = repr(told)
        plan_holds(HOUSE, "Main", "go", told)
        Run(HOUSE, "Main", "go", (1, 2), plans=[("Main", "go", told)], machine="planned").go()
        self.assertEqual(repr(told), held)


class ByChance(Look):

    def test_plans_with_a_thing_otherwise(self):
        counts = {True: 0, False: 0}
        chance = random.Random(7)
        for seed in range(60):
            house = Houses(seed, rash=0, most_rows=(10, 20, 30)[seed % 3]).house()
            for kind_name, one in bodies_of(house):
                told = plan_of(house, kind_name, one[0])
                if told is None:
                    continue
                other = other_plan(chance, house, kind_name, one[0], told, plan_holds)
                self.assertTrue(plan_holds_by_rules(house, kind_name, one[0], other))
                for _ in range(12):
                    changed = mutated(chance, chance.choice((told, other)))
                    held = repr(changed)
                    found = plan_holds(house, kind_name, one[0], changed)
                    self.assertEqual(repr(changed), held)
                    try:
                        wanted = plan_holds_by_rules(house, kind_name, one[0], changed)
                    except (TypeError, ValueError, KeyError, IndexError):
                        # Forms that are none of a plan's, which the rules do not tell of.
                        wanted = False
                    self.assertIs(found, bool(wanted), changed)
                    counts[found] += changed not in (told, other)
        self.assertGreater(counts[True], 50)
        self.assertGreater(counts[False], 500)


if __name__ == "__main__":
    unittest.main()
