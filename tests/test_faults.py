"""[30], [31], [33]: faults and events, each at its bound and one beyond."""

import unittest

from run_samples import MACHINES, end_of, house_of, run_of
from samples import kind, way
from strangemill.house import House
from strangemill.runs import Run

# Calls itself till box 1 is 0; then gives 0, and each frame beneath one more.
DOWN = way("down", ("num",), "num", (
    ("get", 1), ("nought", 10), ("get", 0), ("get", 1), ("num", 1), ("minus",), ("call", "Main", "down"), ("num", 1), ("plus",), ("give",),
    ("num", 0), ("give",)), ((10, 0),))
BAD = way("bad", (), "num", (("drop",), ("num", 1), ("give",)))


def deep(number, most=400, ways=(DOWN,), **parts):
    return end_of(("get", 0), ("num", number), ("call", "Main", "down"), ("give",), ways=ways, most=most, **parts)


class Faults(unittest.TestCase):

    def test_part_by_nought(self):
        for first in (0, 1, -5):
            self.assertEqual(end_of(("num", first), ("num", 0), ("part",), ("give",))[0], ("fault", 1))
            self.assertEqual(end_of(("get", 1), ("get", 2), ("part",), ("give",), numbers=(first, 0))[0], ("fault", 1))

    def test_thirty_frames(self):
        # The first frame, and one more than the number.
        self.assertEqual(deep(28), (("gave", 28), [], 29, 1))
        self.assertEqual(deep(29)[:2], (("fault", 2), []))

    def test_the_thirtieth_frame_catches_its_own_fault(self):
        caught = way("down", ("num",), "num", (
            ("get", 0), ("get", 1), ("num", 1), ("plus",), ("call", "Main", "down"), ("give",), ("num", 100), ("times",), ("get", 1), ("plus",),
            ("give",)), ((6, 1),), ((0, 6, 6),))
        told = deep(1, ways=(caught,))
        # 29 calls, one that is too many, and the fault that is caught.
        self.assertEqual(told, (("gave", 2 * 100 + 29), [], 31, 1))

    def test_a_way_that_is_not_let_by(self):
        for rows in ((("get", 0), ("call", "Main", "bad"), ("give",)),):
            self.assertEqual(end_of(*rows, ways=(BAD,)), (("fault", 4), [], 1, 1))
            told = end_of(*rows[:2], ("give",), ("say",), ("num", 7), ("give",), ways=(BAD,), entries=((3, 1),), catches=((1, 2, 3),))
            self.assertEqual(told, (("gave", 7), [4], 3, 1))

    def test_hails_and_ways_from_above_are_barred_alike(self):
        others = (kind("Base", ways=(BAD,)), kind("Sub", "Base", ("Does",)), kind("Good", "Base", ("Does",), (), (
            way("bad", (), "num", (("num", 3), ("give",))),)), ("face", "Does", (("bad", (), "num"),)))
        for made, end in (("Sub", ("fault", 4)), ("Good", ("gave", 3))):
            for row in (("hail", "Does", "bad"), ("call", "Base", "bad")):
                self.assertEqual(end_of(("new", made), row, ("give",), others=others)[0], end)

    def test_of_both_the_fault_is_2(self):
        last = way("down", ("num",), "num", (
            ("get", 1), ("nought", 9), ("get", 0), ("get", 1), ("num", 1), ("minus",), ("call", "Main", "down"), ("say",), ("jump", 9),
            ("get", 0), ("call", "Main", "bad"), ("give",)), ((9, 0),))
        self.assertEqual(deep(27, ways=(last, BAD))[0], ("fault", 4))
        self.assertEqual(deep(28, ways=(last, BAD))[0], ("fault", 2))

    # Makes things till there is no room, each held by the one made behind it; says how many.
    CHAIN = (("get", 0), ("put", 1), ("get", 1), ("new", "Link"), ("put", 1), ("jump", 2), ("say",), ("num", 0), ("give",))
    LINK = (kind("Base"), kind("Link", "Base", fields=(("next", "Base"),)))

    def chain(self, room, **parts):
        main = kind("Main", "Base", ways=(way("go", (), "num", self.CHAIN, ((2, 0), (6, 1)), ((0, 6, 6),)),))
        told = []
        for machine in MACHINES:
            run = Run(House([main, *self.LINK]), "Main", "go", machine=machine, room=room, **parts)
            told.append((run.go(), run.said(), run.events(), run.made()))
        self.assertEqual(told[0], told[1])
        self.assertEqual(told[0], told[2])
        return told[0]

    def test_room(self):
        for room in (1, 2, 3, 7, 150, 199, 200):
            # A new and a jump for each thing but the first; then a new, its fault, and what is said.
            self.assertEqual(self.chain(room, most=2000), (("gave", 0), [3], 2 * (room - 1) + 3, room))

    def test_things_that_are_gone_make_room(self):
        rows = (("get", 1), ("nought", 10), ("new", "Empty"), ("drop",), ("get", 1), ("num", 1), ("minus",), ("put", 1), ("jump", 0), ("num", 1),
                ("num", 5), ("give",))
        for room, end, made in ((2, ("gave", 5), 21), (1, ("gave", 5), 21)):
            told = end_of(*rows, numbers=(20,), entries=((0, 0), (10, 0)), others=(kind("Empty"),), room=room)
            # Box 0 is live nowhere, so the first thing is gone, too.
            self.assertEqual((told[0], told[3]), (end, made))
        held = (("get", 0), ("put", 2)) + tuple((row[0], row[1] + 2) if row[0] in ("nought", "jump") else row for row in rows[:-1])
        held += (("get", 2), ("drop",), ("give",))
        for room, end in ((2, ("gave", 5)), (1, ("fault", 3))):
            told = end_of(*held, numbers=(20,), entries=((2, 0), (12, 0)), others=(kind("Empty"),), room=room)
            self.assertEqual(told[0], end)

    def test_what_a_new_takes_is_kept_still(self):
        others = (kind("Empty"), kind("Pair", fields=(("a", "Empty"), ("b", "Empty"))))
        rows = (("new", "Empty"), ("new", "Empty"), ("new", "Pair"), ("drop",), ("num", 5), ("give",))
        for room, end in ((3, ("gave", 5)), (2, ("fault", 3))):
            self.assertEqual(end_of(*rows, others=others, room=room)[0], end)

    def test_frames_that_wait_keep_what_they_hold(self):
        others = (kind("Empty"),)
        inner = way("one", (), "num", (
            ("new", "Empty"), ("put", 1), ("new", "Empty"), ("drop",), ("get", 1), ("drop",), ("num", 6), ("give",)))
        # At the second new of the inner frame its own thing is kept, and what the frame beneath holds.
        rows = (("new", "Empty"), ("put", 1), ("get", 0), ("call", "Main", "one"), ("get", 1), ("drop",), ("give",))
        beneath = (("new", "Empty"), ("get", 0), ("call", "Main", "one"), ("turn",), ("drop",), ("give",))
        for held in (rows, beneath):
            for room, end in ((3, ("gave", 6)), (2, ("fault", 3))):
                self.assertEqual(end_of(*held, ways=(inner,), others=others, room=room)[0], end)
        # But not in a box that is put again ahead of each get, or is got no more.
        put = (("new", "Empty"), ("put", 1), ("get", 0), ("call", "Main", "one"), ("put", 1), ("get", 1), ("give",))
        past = (("new", "Empty"), ("put", 1), ("get", 1), ("drop",), ("get", 0), ("call", "Main", "one"), ("give",))
        for gone in (put, past):
            self.assertEqual(end_of(*gone, ways=(inner,), others=others, room=2)[0], ("gave", 6))

    def test_what_is_held_by_what_is_held_is_kept(self):
        others = (kind("Empty"), kind("Box", fields=(("in", "Empty"),)))
        rows = (("new", "Empty"), ("new", "Box"), ("put", 1), ("new", "Empty"), ("drop",), ("get", 1), ("drop",), ("num", 6), ("give",))
        for room, end in ((3, ("gave", 6)), (2, ("fault", 3))):
            self.assertEqual(end_of(*rows, others=others, room=room)[0], end)


class Events(unittest.TestCase):

    def counted(self, many, *rows, end, made=1, **parts):
        """So many events are done; with one less, or fewer, the run has ended as too long."""
        told = end_of(*rows, most=2000, **parts)
        self.assertEqual((told[0], told[2], told[3]), (end, many, made))
        self.assertEqual(end_of(*rows, most=max(1, many), **parts), told)
        for most in range(1, many):
            # Answers are given only as far as the run asks.
            for machine in MACHINES:
                few = dict(parts)
                answers = list(few.pop("answers", ()))
                run = run_of(*rows, machine=machine, most=most, **few)
                while run.go() == ("ask",):
                    run.answer(answers.pop(0))
                self.assertEqual((run.go(), run.events()), (("long",), most))
                self.assertEqual((run.frames(), run.kept()), ([], []))

    def test_none(self):
        self.counted(0, ("num", 4), ("num", 2), ("part",), ("get", 0), ("fits", "Main"), ("plus",), ("jump", 7), ("give",), entries=((7, 1),),
                     end=("gave", 3))
        self.counted(0, ("get", 0), ("num", 4), ("write", "Main", "a"), ("get", 0), ("read", "Main", "a"), ("give",), fields=(("a", "num"),),
                     end=("gave", 4))

    def test_ask_and_say(self):
        self.counted(4, ("ask",), ("ask",), ("say",), ("say",), ("num", 0), ("give",), answers=(1, 2), end=("gave", 0))

    def test_an_ask_that_is_too_many_is_not_come_to(self):
        for machine in MACHINES:
            run = run_of(("num", 1), ("say",), ("ask",), ("give",), most=1, machine=machine)
            self.assertEqual((run.go(), run.said(), run.events()), (("long",), [1], 1))

    def test_a_say_that_is_too_many_is_not_said(self):
        for machine in MACHINES:
            run = run_of(("num", 1), ("say",), ("num", 2), ("say",), ("ask",), ("give",), most=1, machine=machine)
            self.assertEqual((run.go(), run.said(), run.events()), (("long",), [1], 1))

    def test_new(self):
        self.counted(2, ("new", "Empty"), ("drop",), ("new", "Empty"), ("drop",), ("num", 0), ("give",), others=(kind("Empty"),), made=3,
                     end=("gave", 0))

    def test_call_and_hail(self):
        one = way("one", (), "num", (("num", 1), ("give",)))
        others = (("face", "Does", (("one", (), "num"),)), kind("Sub", "", ("Does",), (), (one,)))
        self.counted(3, ("get", 0), ("call", "Main", "one"), ("new", "Sub"), ("hail", "Does", "one"), ("plus",), ("give",), ways=(one,),
                     others=others, made=2, end=("gave", 2))

    def test_a_fault_that_a_catch_takes(self):
        self.counted(1, ("num", 5), ("throw",), ("give",), entries=((2, 1),), catches=((1, 2, 2),), end=("gave", 5))
        self.counted(0, ("num", 5), ("throw",), ("give",), entries=((2, 1),), catches=((0, 1, 2),), end=("fault", 5))
        # The call is one, its fault one more.
        self.counted(2, ("get", 0), ("call", "Main", "bad"), ("give",), ways=(BAD,), entries=((2, 1),), catches=((1, 2, 2),), end=("gave", 4))
        self.counted(1, ("num", 0), ("num", 0), ("part",), ("give",), entries=((3, 1),), catches=((0, 3, 3),), end=("gave", 1))

    def test_jumps_back(self):
        # Three times round, a jump each time.
        rows = (("get", 1), ("nought", 7), ("get", 1), ("num", 1), ("minus",), ("put", 1), ("jump", 0), ("num", 9), ("give",))
        self.counted(3, *rows, entries=((0, 0), (7, 0)), numbers=(3,), end=("gave", 9))

    def test_a_jump_on_is_none(self):
        self.counted(0, ("jump", 1), ("jump", 2), ("num", 4), ("give",), entries=((1, 0), (2, 0)), end=("gave", 4))

    def test_a_jump_to_its_own_row(self):
        for machine in MACHINES:
            run = run_of(("num", 0), ("jump", 1), entries=((1, 1),), most=7, machine=machine)
            self.assertEqual((run.go(), run.events()), (("long",), 7))

    def test_noughts_back_are_such_where_the_number_is_nought(self):
        rows = (("get", 1), ("num", 1), ("minus",), ("put", 1), ("get", 1), ("num", 0), ("part",), ("drop",), ("num", 9), ("give",),
                ("drop",), ("get", 1), ("num", 1), ("minus",), ("twin",), ("put", 1), ("nought", 11), ("num", 8), ("give",))
        # The fault that is caught; then the nought leads back once.
        self.counted(2, *rows, entries=((10, 1), (11, 0)), catches=((4, 7, 10),), numbers=(2,), end=("gave", 8))
        self.counted(1, *rows, entries=((10, 1), (11, 0)), catches=((4, 7, 10),), numbers=(9,), end=("gave", 8))

    def test_noughts_back_by_answers(self):
        again = (("ask",), ("nought", 0), ("num", 6), ("give",))
        self.counted(5, *again, entries=((0, 0),), answers=(0, 0, 1), end=("gave", 6))

    def test_a_nought_to_its_own_row(self):
        # It takes what it needs to stand there again, so only a free run can come to it.
        rows = (("num", 0), ("nought", 1), ("num", 6), ("give",))
        run = run_of(*rows, entries=((1, 1),), free=True)
        self.assertEqual((run.go(), run.events()), (("wrong", "height", "Main", "go", 1), 1))

    def test_a_nought_on_is_none(self):
        self.counted(0, ("get", 1), ("nought", 3), ("jump", 3), ("num", 4), ("give",), entries=((3, 0),), numbers=(0,), end=("gave", 4))
        self.counted(0, ("get", 1), ("nought", 2), ("num", 4), ("give",), entries=((2, 0),), numbers=(0,), end=("gave", 4))

    def test_most_at_its_bounds(self):
        for most in (1, 2000):
            for machine in MACHINES:
                run = run_of(("jump", 0), entries=((0, 0),), most=most, machine=machine)
                self.assertEqual((run.go(), run.events()), (("long",), most))
        run = Run(house_of(("jump", 0), entries=((0, 0),)), "Main", "go")
        self.assertEqual((run.go(), run.events()), (("long",), 400))

    def test_room_is_200_where_none_is_told(self):
        base, link = kind("Base"), kind("Link", "Base", fields=(("next", "Base"),))
        house = house_of(("new", "Base"), ("new", "Link"), ("jump", 1), ("ask",), ("give",), entries=((1, 1), (3, 1)), catches=((0, 3, 3),),
                         others=(base, link))
        run = Run(house, "Main", "go", most=2000)
        self.assertEqual((run.go(), run.made()), (("ask",), 201))


if __name__ == "__main__":
    unittest.main()
