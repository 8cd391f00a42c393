"""[7]: ways, their entries and catches."""

import unittest

from samples import GIVE, kind, kind_of_way, way
from strangemill.units import is_unit


class Case(unittest.TestCase):

    def yes(self, **parts):
        self.assertIs(is_unit(kind_of_way(**parts)), True, parts)

    def no(self, **parts):
        self.assertIs(is_unit(kind_of_way(**parts)), False, parts)


def plain(many):
    return (("ask",),) * many


class Ways(Case):

    def test_numbers_of_rows(self):
        for many in (1, 2, 20, 39, 40):
            self.yes(rows=plain(many))
        for many in (0, 41, 42, 1000):
            self.no(rows=plain(many))

    def test_rows_need_not_end_anywhere(self):
        self.yes(rows=(("drop",),))
        self.yes(rows=(("give",), ("give",)))

    def test_each_row_is_looked_at(self):
        for at in range(40):
            rows = list(plain(40))
            rows[at] = ("asks",)
            self.no(rows=tuple(rows))

    def test_parts_out_more_and_turned_about(self):
        right = way("way", ("num",), "Kind", GIVE, ((1, 1),), ((0, 1, 1),))
        self.assertIs(is_unit(kind(ways=(right,))), True)
        wrong = [right[:at] + right[at + 1:] for at in range(6)]
        wrong += [right[:at] + ((),) + right[at:] for at in range(7)]
        wrong += [right[:at] + ("num",) + right[at:] for at in range(7)]
        wrong += [right[:at] + (right[at + 1], right[at]) + right[at + 2:] for at in range(5)]
        wrong += [right[::-1], (right,), (), right[:3]]
        for other in wrong:
            self.assertIs(is_unit(kind(ways=(other,))), False, other)
            self.assertIs(is_unit(kind(ways=(way("ahead"), other))), False, other)
        self.assertIs(is_unit(kind(ways=right)), False)


class Entries(Case):

    def test_entries_that_rise(self):
        self.yes(entries=())
        self.yes(entries=((0, 0),))
        self.yes(entries=((1, 0),))
        self.yes(entries=((0, 0), (1, 0)))
        self.yes(rows=plain(40), entries=((0, 0), (5, 8), (6, 1), (39, 2)))
        self.yes(rows=plain(40), entries=tuple((row, row % 9) for row in range(40)))

    def test_entries_that_do_not(self):
        self.no(entries=((1, 0), (0, 0)))
        self.no(rows=plain(9), entries=((0, 0), (5, 0), (4, 0)))
        self.no(rows=plain(9), entries=((3, 0), (5, 0), (1, 0), (8, 0)))

    def test_an_entry_twice(self):
        self.no(entries=((0, 0), (0, 0)))
        self.no(entries=((0, 0), (0, 1)))
        self.no(rows=plain(9), entries=((0, 0), (5, 2), (5, 2)))

    def test_entries_at_rows_that_are_none(self):
        for many in (1, 2, 40):
            self.yes(rows=plain(many), entries=((many - 1, 0),))
            self.no(rows=plain(many), entries=((many, 0),))
            self.no(rows=plain(many), entries=((many + 1, 0),))
            self.no(rows=plain(many), entries=((-1, 0),))
            self.no(rows=plain(many), entries=((-1, 0), (0, 0)))
            self.no(rows=plain(many), entries=((0, 0), (many, 0)))

    def test_more_entries_than_rows(self):
        self.no(rows=plain(3), entries=((0, 0), (1, 0), (2, 0), (3, 0)))
        self.no(rows=plain(1), entries=((0, 0),) * 2)

    def test_heights(self):
        for height in range(9):
            self.yes(entries=((0, height),))
            self.yes(entries=((0, 0), (1, height)))
        for height in (-1, 9, 10, -8, 10 ** 30):
            self.no(entries=((0, height),))
            self.no(entries=((0, 0), (1, height)))

    def test_entries_are_pairs(self):
        for entry in ((), (0,), (0, 0, 0), 0, "00", "r0", (0, (0,)), ((0,), 0), ("0", 0), (0, "0"), (0, True), (False, 0)):
            self.no(entries=(entry,))
            self.no(rows=plain(9), entries=(entry, (8, 0)))
        self.no(entries=(0, 0))
        self.no(entries=0)
        self.no(entries="")


class Catches(Case):

    ENTRIES = ((1, 1), (2, 0), (3, 2), (4, 8), (6, 1))

    def lets(self, *catches):
        self.yes(rows=plain(8), entries=self.ENTRIES, catches=catches)

    def bars(self, *catches):
        self.no(rows=plain(8), entries=self.ENTRIES, catches=catches)

    def test_numbers_of_catches(self):
        for many in range(5):
            self.lets(*((at, 8, 1) for at in range(many)))
        for many in (5, 6, 8):
            self.bars(*((at % 8, 8, 1) for at in range(many)))

    def test_catches_may_be_alike_and_in_any_order(self):
        self.lets((0, 8, 1), (0, 8, 1), (0, 8, 1), (0, 8, 1))
        self.lets((7, 8, 6), (0, 3, 1), (2, 5, 6))

    def test_from_is_ahead_of_to(self):
        for first in range(-2, 11):
            for end in range(-2, 11):
                told = self.lets if 0 <= first < end <= 8 else self.bars
                told((first, end, 1))
                told((0, 8, 6), (first, end, 6))

    def test_to_may_be_the_number_of_rows(self):
        for many in (2, 3, 40):
            self.yes(rows=plain(many), entries=((1, 1),), catches=((0, many, 1),))
            self.no(rows=plain(many), entries=((1, 1),), catches=((0, many + 1, 1),))
            self.no(rows=plain(many), entries=((1, 1),), catches=((many, many, 1),))
            self.no(rows=plain(many), entries=((1, 1),), catches=((-1, many, 1),))

    def test_at_is_the_row_of_an_entry_of_height_1(self):
        for at in range(-2, 12):
            told = self.lets if at in (1, 6) else self.bars
            told((0, 8, at))
            told((0, 8, 1), (0, 8, at))
        for height in range(9):
            told = self.yes if height == 1 else self.no
            told(entries=((1, height),), catches=((0, 1, 1),))

    def test_at_may_be_within_or_ahead_of_from_and_to(self):
        self.lets((0, 1, 1), (1, 2, 1), (6, 7, 1), (0, 8, 1))

    def test_a_way_without_entries_has_no_catch(self):
        self.no(entries=(), catches=((0, 1, 0),))
        self.no(entries=(), catches=((0, 1, 1),))

    def test_catches_are_triples(self):
        for catch in (
            (), (0,), (0, 8), (0, 8, 1, 1), 0, "081", ((0, 8), 1), (0, (8, 1)), ("0", 8, 1), (0, "8", 1), (0, 8, "1"),
            (False, 8, 1), (0, True, 1), (0, 8, True), ((0,), 8, 1), (0, (8,), 1), (0, 8, (1,)), (0, 8, (1, 1)), (8, 1),
        ):
            self.bars(catch)
            self.bars((0, 8, 1), catch)
        self.no(rows=plain(8), entries=self.ENTRIES, catches=(0, 8, 1))
        self.no(rows=plain(8), entries=self.ENTRIES, catches="")
        self.no(rows=plain(8), entries=self.ENTRIES, catches=0)


if __name__ == "__main__":
    unittest.main()
