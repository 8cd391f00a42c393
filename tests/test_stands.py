"""[21] to [23]: beginnings, what goes wrong, and where stands lead."""

import unittest

from samples import face, kind, way
from strangemill.house import House
from strangemill.look import beginning, leads, wrong

SUM = ("sum", ("num", "Base"), "Base")
PLAY = ("play", (), "num")

UNITS = [
    kind("Base", fields=(("many", "num"), ("next", "Base")), ways=(way(*SUM), way(*PLAY))),
    kind("Sub", "Base", ("Player",), (("more", "Player"),), (way("own", ("Sub",) * 6, "Player"),)),
    kind("Empty"),
    kind("Six", fields=tuple((f"f{at}", "num") for at in range(6))),
    kind("Eight", "Six", (), (("g0", "num"), ("g1", "Base"))),
    kind("Nine", "Eight", (), (("h0", "num"),)),
    face("Player", (PLAY, SUM)),
]
HOUSE = House(UNITS)
BASE = ("Base",)
SUB = ("Base", "Player", "Sub")
PLAYER = ("Player",)
ANYS = ("any",) * 8
BOXES = ("num", BASE, SUB, "any", (), ("Other",), PLAYER, "num")


def body(*rows, entries=(), catches=(), gives="num", takes=(), holder="Base"):
    return (holder, ("way", takes, gives, rows, entries, catches))


def word(row, stack, *, gives="num", entries=(), at=0, boxes=ANYS):
    """The word due to a stand at a row ahead of which there are others."""
    rows = (("ask",),) * at + (row,)
    return wrong(HOUSE, body(*rows, entries=entries, gives=gives), (at, boxes, tuple(stack)))


class Beginning(unittest.TestCase):

    def boxes(self, told, *marks):
        self.assertEqual(told, (0, marks + ("any",) * (8 - len(marks)), ()))

    def test_of_an_own_way(self):
        self.boxes(beginning(HOUSE, HOUSE.body("Base", "play")), BASE)
        self.boxes(beginning(HOUSE, HOUSE.body("Base", "sum")), BASE, "num", BASE)

    def test_of_a_way_from_above_it_is_that_of_the_kind_in_which_it_stands(self):
        self.assertEqual(HOUSE.body("Sub", "sum")[0], "Base")
        self.boxes(beginning(HOUSE, HOUSE.body("Sub", "sum")), BASE, "num", BASE)

    def test_six_takes(self):
        self.boxes(beginning(HOUSE, HOUSE.body("Sub", "own")), SUB, *[SUB] * 6)

    def test_takes_of_each_sort(self):
        takes = ("num", "Base", "Sub", "Player", "Nobody", "num")
        self.boxes(beginning(HOUSE, body(("ask",), takes=takes, holder="Empty")), ("Empty",), "num", BASE, SUB, PLAYER, (), "num")

    def test_rows_and_entries_are_no_matter(self):
        self.boxes(beginning(HOUSE, body(("give",), entries=((0, 5),))), BASE)


class Wrong(unittest.TestCase):

    def test_off(self):
        for stack in ((), ("num",), ("any",) * 8):
            self.assertEqual(wrong(HOUSE, body(("ask",), ("give",)), (2, ANYS, stack)), "off")
        self.assertEqual(wrong(HOUSE, body(("ask",)), (0, ANYS, ())), "")

    def test_height(self):
        for height in range(9):
            for many in range(9):
                told = word(("jump", 1), ("num",) * many, entries=((1, height),), at=1)
                self.assertEqual(told, "" if height == many else "height")
        # The height of another row's entry is no matter.
        self.assertEqual(word(("jump", 0), ("num",), entries=((0, 0),), at=1), "")

    def test_height_is_ahead_of_lack_and_low(self):
        self.assertEqual(word(("new", "Nobody"), ("num",), entries=((0, 0),)), "height")
        self.assertEqual(word(("new", "Nobody"), (), entries=((0, 0),)), "lack")
        self.assertEqual(word(("plus",), ("any",), entries=((0, 2),)), "height")
        self.assertEqual(word(("plus",), ("any",), entries=((0, 1),)), "low")

    def test_lack(self):
        for row in (
            ("new", "Nobody"), ("new", "Player"),
            ("read", "Nobody", "many"), ("read", "Player", "many"), ("read", "Base", "none"), ("read", "Base", "more"),
            ("read", "Base", "sum"), ("write", "Nobody", "many"), ("write", "Player", "many"), ("write", "Base", "more"),
            ("call", "Nobody", "play"), ("call", "Player", "play"), ("call", "Base", "none"), ("call", "Base", "own"),
            ("call", "Base", "many"), ("hail", "Nobody", "play"), ("hail", "Base", "play"), ("hail", "Player", "none"),
            ("hail", "Player", "own"), ("fits", "Nobody"),
        ):
            # Ahead of all that is wanted of the stack.
            for stack in ((), ("any",) * 8, (SUB,) * 3):
                self.assertEqual(word(row, stack), "lack", row)

    def test_a_give_of_a_type_that_is_not_there(self):
        for stack in ((), ("num",), (("Nobody",),)):
            self.assertEqual(word(("give",), stack, gives="Nobody"), "lack")
        self.assertEqual(word(("give",), (BASE,), gives="Base"), "")
        self.assertEqual(word(("give",), (PLAYER,), gives="Player"), "")
        self.assertEqual(word(("say",), ("num",), gives="Nobody"), "")

    def test_no_lack(self):
        for row, stack in (
            (("new", "Empty"), ()), (("read", "Sub", "many"), (SUB,)), (("read", "Sub", "more"), (SUB,)),
            (("write", "Sub", "next"), (SUB, BASE)), (("call", "Sub", "play"), (SUB,)), (("hail", "Player", "play"), (PLAYER,)),
            (("call", "Sub", "own"), (SUB,) * 7), (("fits", "Player"), ((),)), (("fits", "Base"), ((),)),
        ):
            self.assertEqual(word(row, stack), "", row)

    def test_low(self):
        for row, wanted in (
            (("say",), ("num",)), (("drop",), ("any",)), (("put", 3), ("any",)), (("twin",), ("any",)),
            (("turn",), ("any", "any")), (("plus",), ("num", "num")), (("minus",), ("num", "num")), (("times",), ("num", "num")),
            (("part",), ("num", "num")), (("same",), ((), ())), (("fits", "Base"), ((),)), (("new", "Base"), ("num", BASE)),
            (("new", "Sub"), ("num", BASE, PLAYER)), (("read", "Base", "many"), (BASE,)),
            (("write", "Base", "many"), (BASE, "num")), (("write", "Sub", "more"), (SUB, PLAYER)),
            (("call", "Base", "sum"), (BASE, "num", BASE)), (("hail", "Player", "sum"), (PLAYER, "num", BASE)),
            (("nought", 0), ("num",)), (("throw",), ("num",)), (("give",), ("num",)),
        ):
            self.assertEqual(word(row, wanted), "", row)
            for less in range(len(wanted)):
                # What lies there is not looked at where there is too little of it.
                self.assertEqual(word(row, ("num", (), "any", "num", "num", "any", (), "num")[:less]), "low", row)
                self.assertEqual(word(row, wanted[:less]), "low", row)
            self.assertEqual(word(row, ("any", "num", (), "any")[:8 - len(wanted)] + wanted), "", row)

    def test_kinds_with_more_than_eight_fields_are_always_low(self):
        self.assertEqual(word(("new", "Eight"), ("num",) * 7 + (BASE,)), "")
        for many in range(9):
            self.assertEqual(word(("new", "Nine"), ("num",) * many), "low")

    def test_num(self):
        for row, stack in (
            (("say",), ("any",)), (("say",), (BASE,)), (("throw",), ((),)), (("nought", 0), ("any",)), (("give",), ("any",)),
            (("plus",), ("num", "any")), (("plus",), ("any", "num")), (("minus",), (BASE, "num")), (("times",), ("num", BASE)),
            (("part",), ("any", "any")), (("new", "Six"), ("any",) + ("num",) * 5), (("write", "Base", "many"), (BASE, BASE)),
            (("call", "Base", "sum"), (BASE, "any", BASE)),
        ):
            self.assertEqual(word(row, stack), "num", row)

    def test_thing(self):
        for row, stack in (
            (("same",), ("num", ())), (("same",), ((), "any")), (("fits", "Base"), ("any",)), (("fits", "Base"), ("num",)),
            (("read", "Base", "many"), ("any",)), (("read", "Base", "many"), ("num",)),
            (("write", "Base", "next"), (BASE, "num")), (("write", "Base", "next"), ("any", BASE)),
            (("call", "Base", "play"), ("num",)), (("hail", "Player", "play"), ("any",)), (("new", "Base"), ("num", "any")),
        ):
            self.assertEqual(word(row, stack), "thing", row)
        self.assertEqual(word(("give",), ("num",), gives="Base"), "thing")
        self.assertEqual(word(("give",), ("any",), gives="Player"), "thing")

    def test_fits(self):
        for row, stack in (
            (("read", "Base", "many"), ((),)), (("read", "Base", "many"), (PLAYER,)), (("read", "Sub", "many"), (BASE,)),
            (("write", "Base", "next"), (BASE, PLAYER)), (("write", "Sub", "next"), (BASE, BASE)),
            (("call", "Sub", "play"), (BASE,)), (("hail", "Player", "play"), (BASE,)), (("call", "Base", "sum"), (BASE, "num", ())),
            (("new", "Sub"), ("num", BASE, BASE)),
        ):
            self.assertEqual(word(row, stack), "fits", row)
        self.assertEqual(word(("give",), (PLAYER,), gives="Base"), "fits")
        # Names that the house does not have are no harm; a name counts, not who has it.
        self.assertEqual(word(("hail", "Player", "play"), (("Other", "Player"),)), "")
        self.assertEqual(word(("same",), ((), ("Other",))), "")

    def test_places_are_looked_at_from_the_top_down(self):
        for row, stack, first in (
            (("plus",), (BASE, "any"), "num"),
            (("write", "Base", "many"), ("num", "any"), "num"),
            (("write", "Base", "many"), ("num", "num"), "thing"),
            (("write", "Base", "next"), ("num", PLAYER), "fits"),
            (("write", "Base", "next"), (PLAYER, "any"), "thing"),
            (("call", "Base", "sum"), ((), "any", "num"), "thing"),
            (("call", "Base", "sum"), ("num", "any", BASE), "num"),
            (("call", "Base", "sum"), ("num", "any", PLAYER), "fits"),
            (("call", "Base", "sum"), (PLAYER, "num", BASE), "fits"),
            (("new", "Base"), ("any", ()), "fits"),
            (("new", "Base"), ("any", BASE), "num"),
            (("same",), ("num", "num"), "thing"),
        ):
            self.assertEqual(word(row, ("any",) + stack), first, row)

    def test_high(self):
        full = ("num",) * 8
        for row in (("ask",), ("num", 1), ("get", 0), ("twin",), ("new", "Empty")):
            self.assertEqual(word(row, full), "high", row)
            self.assertEqual(word(row, full[:7]), "", row)
        for row in (
            ("say",), ("drop",), ("put", 0), ("turn",), ("plus",), ("part",), ("new", "Six"), ("nought", 0), ("throw",), ("give",),
        ):
            self.assertEqual(word(row, full), "", row)
        things = (SUB,) * 8
        for row in (("same",), ("fits", "Base"), ("read", "Base", "many"), ("write", "Base", "next"), ("call", "Sub", "own")):
            self.assertEqual(word(row, things), "", row)
        self.assertEqual(word(("jump", 0), full, entries=((0, 8),)), "")

    def test_high_is_behind_all_else(self):
        self.assertEqual(word(("ask",), ("num",) * 8, entries=((0, 1),)), "height")
        self.assertEqual(word(("new", "Nobody"), ("num",) * 8), "lack")

    def test_rows_that_want_nothing_of_what_they_take(self):
        for row in (("put", 0), ("drop",), ("twin",), ("turn",)):
            for mark in ("num", "any", (), BASE):
                self.assertEqual(word(row, (mark, mark)), "")

    def test_boxes_are_no_matter(self):
        for row in (("get", 3), ("put", 3), ("ask",), ("give",)):
            for mark in ("num", "any", ()):
                self.assertEqual(word(row, ("num",), boxes=(mark,) * 8), "")

    def test_a_body_whose_kind_is_not_of_the_house(self):
        there = body(("new", "Base"), ("give",), holder="Nobody")
        self.assertEqual(wrong(HOUSE, there, (0, ANYS, ("num", BASE))), "")
        self.assertEqual(wrong(HOUSE, there, (1, ANYS, (BASE,))), "num")
        self.assertEqual(leads(HOUSE, there, (0, BOXES, ("num", BASE))), [(1, BOXES, (BASE,))])
        self.assertEqual(wrong(House([]), there, (0, ANYS, ("num", BASE))), "lack")


class Leads(unittest.TestCase):

    def led(self, row, stack, told, *, boxes=BOXES, gives="num"):
        """A row without a catch leads just to the row behind, with that on the stack."""
        rows = (("ask",), row, ("ask",))
        found = leads(HOUSE, body(*rows, gives=gives), (1, BOXES, stack))
        self.assertEqual(found, [(2, boxes, told)], row)
        self.assertIs(type(found), list)

    def test_the_rows_by_their_deeds(self):
        low = ("any", ("Other",))
        for row, takes, brings in (
            (("ask",), (), ("num",)), (("num", -5), (), ("num",)), (("say",), ("num",), ()), (("drop",), ("any",), ()),
            (("plus",), ("num", "num"), ("num",)), (("minus",), ("num", "num"), ("num",)), (("times",), ("num", "num"), ("num",)),
            (("part",), ("num", "num"), ("num",)), (("same",), ((), BASE), ("num",)), (("fits", "Base"), ((),), ("num",)),
            (("new", "Base"), ("num", BASE), (BASE,)), (("new", "Sub"), ("num", SUB, SUB), (SUB,)),
            (("new", "Empty"), (), (("Empty",),)), (("read", "Base", "many"), (SUB,), ("num",)),
            (("read", "Base", "next"), (SUB,), (BASE,)), (("read", "Sub", "more"), (SUB,), (PLAYER,)),
            (("write", "Base", "many"), (BASE, "num"), ()), (("write", "Base", "next"), (BASE, SUB), ()),
            (("call", "Base", "sum"), (SUB, "num", SUB), (BASE,)), (("call", "Base", "play"), (SUB,), ("num",)),
            (("call", "Sub", "own"), (SUB,) * 7, (PLAYER,)), (("hail", "Player", "sum"), (PLAYER, "num", BASE), (BASE,)),
        ):
            for beneath in ((), low[:1]):
                self.led(row, beneath + takes, beneath + brings)

    def test_marks_that_were_there(self):
        for box, mark in enumerate(BOXES):
            self.led(("get", box), ("num",), ("num", mark))
            self.led(("twin",), ("num", mark), ("num", mark, mark))
            self.led(("turn",), ("any", "num", mark), ("any", mark, "num"))
            self.led(("put", 3), ("any", mark), ("any",), boxes=BOXES[:3] + (mark,) + BOXES[4:])
        self.led(("put", 0), ("any",), (), boxes=("any",) + BOXES[1:])
        self.led(("put", 7), ("any",), (), boxes=BOXES[:7] + ("any",))

    def test_jump(self):
        for target in (0, 1, 2):
            found = leads(HOUSE, body(("ask",), ("jump", target), ("ask",), entries=((target, 2),)), (1, BOXES, ("num", "any")))
            self.assertEqual(found, [(target, BOXES, ("num", "any"))])

    def test_a_jump_to_its_own_row(self):
        self.assertEqual(leads(HOUSE, body(("jump", 0), entries=((0, 0),)), (0, BOXES, ())), [(0, BOXES, ())])

    def test_nought(self):
        for target in (0, 1, 2, 3):
            rows = (("ask",), ("nought", target), ("ask",), ("ask",))
            entries = ((target, 1),) if target != 1 else ((1, 2),)
            found = leads(HOUSE, body(*rows, entries=entries), (1, BOXES, ("any", "num")))
            self.assertEqual(found, [(2, BOXES, ("any",)), (target, BOXES, ("any",))])

    def test_a_nought_whose_r_is_the_row_behind_leads_there_twice(self):
        found = leads(HOUSE, body(("nought", 1), ("ask",), entries=((1, 0),)), (0, BOXES, ("num",)))
        self.assertEqual(found, [(1, BOXES, ()), (1, BOXES, ())])

    def test_give_and_throw(self):
        for stack in (("num",), ("any", "num")):
            self.assertEqual(leads(HOUSE, body(("give",), ("ask",)), (0, BOXES, stack)), [])
            self.assertEqual(leads(HOUSE, body(("throw",), ("ask",)), (0, BOXES, stack)), [])

    def test_the_last_row_leads_to_the_number_of_rows(self):
        self.assertEqual(leads(HOUSE, body(("ask",)), (0, BOXES, ())), [(1, BOXES, ("num",))])

    FAULTS = (
        (("part",), ("num", "num"), "num"), (("new", "Base"), ("num", BASE), BASE), (("call", "Base", "play"), (SUB,), "num"),
        (("hail", "Player", "sum"), (PLAYER, "num", BASE), BASE),
    )

    def test_catches(self):
        catch = (0, BOXES, ("num",))
        for row, takes, brings in self.FAULTS:
            rows = (("say",), row, ("ask",))
            for beneath in ((), ("any",)):
                found = leads(HOUSE, body(*rows, entries=((0, 1),), catches=((1, 2, 0),)), (1, BOXES, beneath + takes))
                self.assertEqual(found, [(2, BOXES, beneath + (brings,)), catch])
        throw = body(("say",), ("throw",), ("ask",), entries=((0, 1),), catches=((1, 2, 0),))
        self.assertEqual(leads(HOUSE, throw, (1, BOXES, ("any", "num"))), [catch])

    def test_rows_that_may_not_fault_have_no_use_for_a_catch(self):
        for row, stack in ((("ask",), ()), (("plus",), ("num", "num")), (("read", "Base", "many"), (BASE,)), (("say",), ("num",))):
            found = leads(HOUSE, body(("say",), row, ("ask",), entries=((0, 1),), catches=((0, 3, 0),)), (1, BOXES, stack))
            self.assertEqual(len(found), 1)
        give = body(("say",), ("give",), entries=((0, 1),), catches=((0, 2, 0),))
        self.assertEqual(leads(HOUSE, give, (1, BOXES, ("num",))), [])

    def test_which_catch(self):
        entries = ((0, 1), (4, 1))
        for catches, at in (
            ((), None), (((2, 3, 0),), None), (((0, 1, 0),), None), (((1, 2, 0),), 0), (((0, 2, 4),), 4), (((1, 5, 4),), 4),
            (((0, 5, 0), (1, 2, 4)), 0), (((1, 2, 4), (0, 5, 0)), 4), (((2, 5, 0), (0, 1, 0), (0, 2, 4)), 4),
        ):
            rows = (("say",), ("part",), ("say",), ("ask",), ("say",))
            found = leads(HOUSE, body(*rows, entries=entries, catches=catches), (1, BOXES, ("num", "num")))
            wanted = [(2, BOXES, ("num",))] + ([] if at is None else [(at, BOXES, ("num",))])
            self.assertEqual(found, wanted, catches)

    def test_a_catch_whose_at_is_the_row_behind_or_the_row_itself(self):
        there = body(("part",), ("say",), entries=((1, 1),), catches=((0, 1, 1),))
        self.assertEqual(leads(HOUSE, there, (0, BOXES, ("num", "num"))), [(1, BOXES, ("num",))] * 2)
        self.assertEqual(leads(HOUSE, there, (0, BOXES, (BASE, "num", "num"))), [(1, BOXES, (BASE, "num")), (1, BOXES, ("num",))])
        own = body(("throw",), entries=((0, 1),), catches=((0, 1, 0),))
        self.assertEqual(leads(HOUSE, own, (0, BOXES, ("num",))), [(0, BOXES, ("num",))])

    def test_what_goes_wrong_leads_nowhere(self):
        for rows, stand in (
            ((("ask",),), (1, ANYS, ())), ((("say",),), (0, ANYS, ("any",))), ((("plus",),), (0, ANYS, ("num",))),
            ((("ask",),), (0, ANYS, ("num",) * 8)), ((("new", "Nobody"),), (0, ANYS, ())), ((("part",),), (0, ANYS, ("num", "any"))),
        ):
            there = body(*rows, entries=((0, len(stand[2])),) if stand[0] == 0 else ())
            self.assertEqual(leads(HOUSE, there, stand), [])
        caught = body(("part",), ("say",), entries=((1, 1),), catches=((0, 1, 1),))
        self.assertEqual(leads(HOUSE, caught, (0, ANYS, ("any", "num"))), [])
        self.assertEqual(leads(HOUSE, caught, (1, ANYS, ("num", "num"))), [])

    def test_the_list_is_the_askers_own(self):
        there = body(("ask",), ("give",))
        leads(HOUSE, there, (0, ANYS, ())).clear()
        self.assertEqual(leads(HOUSE, there, (0, ANYS, ())), [(1, ANYS, ("num",))])


if __name__ == "__main__":
    unittest.main()
