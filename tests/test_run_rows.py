"""[17] to [19], [29]: what the rows do, on each machine."""

import unittest

from run_samples import MACHINES, end_of, run_of
from samples import WORDS, face, kind, way
from strangemill.house import House
from strangemill.runs import Run

TOP, LOW = 999999999999, -1000000000000


def gives(*rows, **parts):
    """What a way of these rows gives, without saying or making anything."""
    told, said, _, made = end_of(*rows, **parts)
    assert (told[0], said, made) == ("gave", [], 1), (told, said, made)
    return told[1]


class Numbers(unittest.TestCase):

    def two(self, word, first, second, told):
        # By numbers that are written and by ones that come only when it runs.
        self.assertEqual(gives(("num", first), ("num", second), (word,), ("give",)), told, (word, first, second))
        self.assertEqual(gives(("get", 1), ("get", 2), (word,), ("give",), numbers=(first, second)), told)
        self.assertEqual(gives(("get", 1), ("num", second), (word,), ("give",), numbers=(first,)), told)
        self.assertEqual(gives(("num", first), ("get", 1), (word,), ("give",), numbers=(second,)), told)

    def test_num_and_give(self):
        for number in (0, 1, -1, TOP, LOW):
            self.assertEqual(gives(("num", number), ("give",)), number)

    def test_plus(self):
        for first, second, told in ((2, 3, 5), (-2, 3, 1), (TOP, 1, LOW), (TOP, TOP, -2), (LOW, -1, TOP), (LOW, LOW, 0), (TOP, LOW, -1)):
            self.two("plus", first, second, told)

    def test_minus(self):
        for first, second, told in ((2, 3, -1), (3, 2, 1), (LOW, 1, TOP), (TOP, -1, LOW), (0, LOW, LOW), (LOW, TOP, 1), (TOP, LOW, -1)):
            self.two("minus", first, second, told)

    def test_times(self):
        for first, second, told in (
            (2, 3, 6), (-2, 3, -6), (-2, -3, 6), (TOP, 2, -2), (LOW, -1, LOW), (LOW, LOW, 0), (TOP, TOP, 1), (1000000, 1000000, LOW),
            (1000000, -1000000, LOW), (1000001, 1000000, -999999000000),
        ):
            self.two("times", first, second, told)

    def test_part_is_rounded_down(self):
        for first, second, told in (
            (7, 2, 3), (-7, 2, -4), (7, -2, -4), (-7, -2, 3), (6, 2, 3), (-6, 2, -3), (6, -2, -3), (-6, -2, 3), (0, 5, 0), (0, -5, 0),
            (1, TOP, 0), (-1, TOP, -1), (1, LOW, -1), (-1, LOW, 0), (LOW, -1, LOW), (LOW, 1, LOW), (TOP, -1, -TOP), (TOP, LOW, -1),
        ):
            self.two("part", first, second, told)

    def test_ask_and_say(self):
        told = end_of(("ask",), ("ask",), ("say",), ("say",), ("num", 0), ("give",), answers=(5, TOP + 3))
        self.assertEqual(told, (("gave", 0), [LOW + 2, 5], 4, 1))

    def test_boxes(self):
        self.assertEqual(gives(("get", 2), ("give",), numbers=(3, 4)), 4)
        self.assertEqual(gives(("num", 9), ("put", 7), ("num", 8), ("put", 0), ("get", 7), ("give",)), 9)
        self.assertEqual(gives(("get", 1), ("put", 2), ("num", 6), ("put", 1), ("get", 2), ("give",), numbers=(3,)), 3)

    def test_the_stack(self):
        self.assertEqual(gives(("num", 1), ("num", 2), ("drop",), ("give",)), 1)
        self.assertEqual(gives(("num", 9), ("num", 2), ("turn",), ("minus",), ("give",)), -7)
        self.assertEqual(gives(("num", 9), ("twin",), ("times",), ("give",)), 81)
        self.assertEqual(gives(("get", 1), ("get", 2), ("turn",), ("get", 3), ("minus",), ("minus",), ("give",), numbers=(1, 20, 300)),
                         20 - (1 - 300))

    def test_nothing_may_be_moved_about(self):
        rows = (("get", 5), ("twin",), ("num", 4), ("turn",), ("put", 3), ("turn",), ("drop",), ("give",))
        self.assertEqual(gives(*rows), 4)
        run = run_of(("get", 5), ("twin",), ("put", 1), ("ask",), ("get", 1), ("drop",), ("give",))
        run.go()
        self.assertEqual(run.frames(), [("Main", "go", 0, 3, ("-", None) + ("-",) * 6, (None,))])

    def test_jump_and_nought(self):
        rows = (("get", 1), ("nought", 4), ("num", 1), ("give",), ("num", 2), ("give",))
        for number, told in ((0, 2), (1, 1), (-1, 1), (2 * 10 ** 12, 2)):
            self.assertEqual(gives(*rows, entries=((4, 0),), numbers=(number,)), told)
        for number, told in ((0, 2), (1, 1), (-1, 1)):
            rows = (("num", number), ("nought", 4), ("num", 1), ("give",), ("num", 2), ("give",))
            self.assertEqual(gives(*rows, entries=((4, 0),)), told)
        self.assertEqual(gives(("jump", 3), ("num", 1), ("give",), ("num", 2), ("give",), entries=((3, 0),)), 2)

    def test_a_loop(self):
        # The sum of the numbers from box 1 down.
        rows = (("get", 1), ("nought", 11), ("get", 1), ("get", 2), ("plus",), ("put", 2), ("get", 1), ("num", 1), ("minus",), ("put", 1),
                ("jump", 0), ("get", 2), ("give",))
        self.assertEqual(gives(*rows, entries=((0, 0), (11, 0)), numbers=(10, 0)), 55)


ITEM = kind("Item", fields=(("many", "num"), ("next", "Item")), ways=(
    way("count", (), "num", (("num", 1), ("give",))), way("add", ("num", "num"), "num", (("get", 1), ("get", 2), ("minus",), ("give",))),
))
BASE = kind("Base", "", ("Named",), (("first", "num"),), (
    way("name", (), "num", (("num", 10), ("give",))), way("who", (), "Base", (("get", 0), ("give",))),
    way("other", (), "num", (("get", 0), ("call", "Base", "name"), ("give",))),
))
SUB = kind("Sub", "Base", ("Extra",), (("second", "num"), ("third", "Base")), (way("name", (), "num", (("num", 20), ("give",))),))
NAMED = face("Named", (("name", (), "num"),))
EXTRA = face("Extra", (("who", (), "Base"),))
OTHERS = (BASE, SUB, NAMED, EXTRA, kind("Empty"))


class Things(unittest.TestCase):

    def told(self, *rows, made, end, **parts):
        told = end_of(*rows, others=OTHERS, **parts)
        self.assertEqual((told[0], told[3]), (end, made))

    BASE_NEW = (("num", 4), ("new", "Base"))

    def test_new_and_read(self):
        self.told(*self.BASE_NEW, ("read", "Base", "first"), ("give",), made=2, end=("gave", 4))
        # Fields are taken from the top of the family down, the lowest on the stack first.
        sub = (("num", 1), ("num", 2)) + self.BASE_NEW + (("new", "Sub"),)
        self.told(*sub, ("read", "Sub", "first"), ("give",), made=3, end=("gave", 1))
        self.told(*sub, ("read", "Base", "first"), ("give",), made=3, end=("gave", 1))
        self.told(*sub, ("read", "Sub", "second"), ("give",), made=3, end=("gave", 2))
        self.told(*sub, ("read", "Sub", "third"), ("read", "Base", "first"), ("give",), made=3, end=("gave", 4))
        self.told(*sub, ("give",), made=3, end=("gave", ("thing", 3)), gives="Base")
        self.told(("new", "Empty"), ("give",), made=2, end=("gave", ("thing", 2)), gives="Empty")

    def test_write(self):
        self.told(*self.BASE_NEW, ("put", 1), ("get", 1), ("num", 7), ("write", "Base", "first"), ("get", 1), ("read", "Base", "first"),
                  ("give",), made=2, end=("gave", 7))
        self.told(("get", 0), ("num", 7), ("write", "Main", "own"), ("get", 0), ("read", "Main", "own"), ("give",), made=1,
                  end=("gave", 7), fields=(("own", "num"),))
        self.told(("get", 0), ("read", "Main", "own"), ("give",), made=1, end=("gave", 0), fields=(("own", "num"),))

    def test_one_thing_under_two_names(self):
        self.told(*self.BASE_NEW, ("twin",), ("put", 1), ("num", 9), ("write", "Base", "first"), ("get", 1), ("read", "Base", "first"),
                  ("give",), made=2, end=("gave", 9))

    def test_same(self):
        self.told(*self.BASE_NEW, ("twin",), ("same",), ("give",), made=2, end=("gave", 1))
        self.told(*self.BASE_NEW, *self.BASE_NEW, ("same",), ("give",), made=3, end=("gave", 0))
        self.told(*self.BASE_NEW, ("get", 0), ("same",), ("give",), made=2, end=("gave", 0))
        self.told(("get", 0), ("get", 0), ("same",), ("give",), made=1, end=("gave", 1))

    def test_fits(self):
        sub = (("num", 1), ("num", 2)) + self.BASE_NEW + (("new", "Sub"),)
        for rows, made, names in ((self.BASE_NEW, 2, ("Base", "Named")), (sub, 3, ("Base", "Named", "Sub", "Extra"))):
            for name in ("Base", "Sub", "Named", "Extra", "Empty", "Main"):
                self.told(*rows, ("fits", name), ("give",), made=made, end=("gave", int(name in names)))

    def test_call_begins_the_way_of_the_things_own_kind(self):
        sub = (("num", 1), ("num", 2)) + self.BASE_NEW + (("new", "Sub"),)
        self.told(*self.BASE_NEW, ("call", "Base", "name"), ("give",), made=2, end=("gave", 10))
        self.told(*sub, ("call", "Base", "name"), ("give",), made=3, end=("gave", 20))
        self.told(*sub, ("call", "Sub", "name"), ("give",), made=3, end=("gave", 20))
        self.told(*sub, ("hail", "Named", "name"), ("give",), made=3, end=("gave", 20))
        self.told(*self.BASE_NEW, ("hail", "Named", "name"), ("give",), made=2, end=("gave", 10))
        self.told(*sub, ("hail", "Extra", "who"), ("give",), made=3, end=("gave", ("thing", 3)), gives="Base")
        # In a way from above, too, where box 0 is known as Base only.
        self.told(*sub, ("call", "Base", "other"), ("give",), made=3, end=("gave", 20))

    def test_what_a_call_takes(self):
        told = end_of(
            ("num", 5), ("get", 0), ("num", 30), ("num", 4), ("call", "Main", "less"), ("plus",), ("give",),
            ways=(way("less", ("num", "num"), "num", (("get", 1), ("get", 2), ("minus",), ("give",))),))
        self.assertEqual(told, (("gave", 31), [], 1, 1))

    def test_what_lies_beneath_and_in_boxes_stays(self):
        told = end_of(
            ("num", 5), ("num", 6), ("put", 3), ("get", 0), ("call", "Main", "one"), ("plus",), ("get", 3), ("times",), ("give",),
            ways=(way("one", (), "num", (("num", 8), ("put", 3), ("get", 3), ("give",))),))
        self.assertEqual(told, (("gave", (5 + 8) * 6), [], 1, 1))

    def test_names_that_are_words_of_rows(self):
        for word in WORDS:
            one = way(word, (), "num", (("get", 0), ("read", "Main", word), ("num", 1), ("plus",), ("give",)))
            for row in (("call", "Main", word), ("call", "Sub", word), ("hail", "Named", word)):
                main = kind("Main", "", ("Named",), ((word, "num"),), (one,))
                sub = kind("Sub", "Main", ways=(way("go", (), "num", (
                    ("get", 0), ("num", 6), ("write", "Main", word), ("get", 0), row, ("get", 0), ("read", "Sub", word), ("times",), ("give",))),))
                house = House([main, sub, face("Named", ((word, (), "num"),))])
                for machine in MACHINES:
                    run = Run(house, "Sub", "go", machine=machine)
                    self.assertEqual((run.go(), run.said(), run.events(), run.made()), (("gave", 42), [], 1, 1), (row, machine))

    def test_fields_of_things_of_a_ring(self):
        loop = kind("Ring", fields=(("own", "num"),), ways=(
            way("go", (), "num", (("get", 0), ("new", "Holds"), ("read", "Holds", "ring"), ("get", 0), ("same",), ("give",))),))
        house = House([loop, kind("Holds", fields=(("ring", "Ring"),))])
        for machine in MACHINES:
            self.assertEqual(Run(house, "Ring", "go", machine=machine).go(), ("gave", 1))


class Catches(unittest.TestCase):

    def test_a_throw_without_a_catch(self):
        for number in (0, 1, 5, -3, TOP, LOW):
            self.assertEqual(end_of(("num", number), ("throw",)), (("fault", number), [], 0, 1))

    def test_a_throw_that_is_caught(self):
        told = end_of(("num", 9), ("num", 5), ("throw",), ("give",), entries=((3, 1),), catches=((2, 3, 3),))
        self.assertEqual(told, (("gave", 5), [], 1, 1))

    def test_the_boxes_are_as_they_were_ahead_of_the_row(self):
        rows = (("num", 1), ("put", 1), ("num", 4), ("num", 0), ("part",), ("put", 1), ("num", 3), ("give",), ("say",), ("get", 1), ("give",))
        told = end_of(*rows, entries=((8, 1),), catches=((0, 8, 8),))
        self.assertEqual(told, (("gave", 1), [1], 2, 1))

    def test_the_first_catch_that_holds_the_row_takes_it(self):
        rows = (("num", 5), ("throw",), ("drop",), ("num", 2), ("give",), ("drop",), ("num", 5), ("give",))
        for catches, end in (
            ((), ("fault", 5)), (((0, 1, 2),), ("fault", 5)), (((2, 8, 2),), ("fault", 5)), (((1, 2, 2),), ("gave", 2)),
            (((0, 8, 5), (1, 2, 2)), ("gave", 5)), (((1, 2, 2), (0, 8, 5)), ("gave", 2)), (((0, 1, 2), (1, 8, 5), (0, 8, 2)), ("gave", 5)),
        ):
            self.assertEqual(end_of(*rows, entries=((2, 1), (5, 1)), catches=catches)[0], end, catches)

    def test_a_fault_goes_down_to_the_frame_that_catches_it(self):
        ways = (
            way("one", (), "num", (("num", 1), ("put", 1), ("get", 0), ("call", "Main", "two"), ("give",))),
            way("two", (), "num", (("num", 2), ("num", 0), ("part",), ("give",))),
        )
        rows = (("num", 8), ("put", 1), ("num", 4), ("get", 0), ("call", "Main", "one"), ("give",), ("get", 1), ("times",), ("give",))
        self.assertEqual(end_of(*rows, ways=ways)[0], ("fault", 1))
        told = end_of(*rows, ways=ways, entries=((6, 1),), catches=((4, 5, 6),))
        self.assertEqual(told, (("gave", 8), [], 3, 1))

    def test_a_catch_within_one_that_was_called(self):
        ways = (way("one", (), "num", (("num", 7), ("throw",), ("num", 1), ("plus",), ("give",)), ((2, 1),), ((1, 2, 2),)),)
        rows = (("get", 0), ("call", "Main", "one"), ("give",), ("drop",), ("num", 0), ("give",))
        self.assertEqual(end_of(*rows, ways=ways, entries=((3, 1),), catches=((0, 3, 3),))[0], ("gave", 8))

    def test_a_catch_that_throws_again(self):
        rows = (("num", 3), ("throw",), ("num", 1), ("minus",), ("twin",), ("nought", 7), ("throw",), ("give",))
        told = end_of(*rows, entries=((2, 1), (7, 1)), catches=((0, 7, 2),))
        self.assertEqual(told, (("gave", 0), [], 3, 1))


class Gives(unittest.TestCase):

    def test_the_last_give_ends_the_run(self):
        told = end_of(("get", 0), ("give",), gives="Main")
        self.assertEqual(told, (("gave", ("thing", 1)), [], 0, 1))

    def test_a_face_is_given(self):
        told = end_of(("num", 1), ("new", "Base"), ("give",), gives="Named", others=OTHERS)
        self.assertEqual(told[0], ("gave", ("thing", 2)))


if __name__ == "__main__":
    unittest.main()
