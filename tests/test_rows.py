"""[8]: rows, their words and parts."""

import unittest

from samples import PLAIN, WORDS, deep, kind_of_row, kind_of_way
from strangemill.bounds import WORDS as TOLD_WORDS
from strangemill.units import is_unit

# For each word with parts one row of it, right in the kind of kind_of_row.
ROWS = {
    "num": ("num", 5),
    "get": ("get", 5),
    "put": ("put", 5),
    "fits": ("fits", "Kind"),
    "new": ("new", "Kind"),
    "read": ("read", "Kind", "field"),
    "write": ("write", "Kind", "field"),
    "call": ("call", "Kind", "way"),
    "hail": ("hail", "Face", "way"),
    "jump": ("jump", 0),
    "nought": ("nought", 0),
}

MORE = ("", "a", "A", "num", 0, 1, (), ("ask",))


class Case(unittest.TestCase):

    def yes(self, row):
        self.assertIs(is_unit(kind_of_row(row)), True, row)

    def no(self, row):
        self.assertIs(is_unit(kind_of_row(row)), False, row)


class Words(Case):

    def test_each_word_is_tried_here(self):
        self.assertEqual(PLAIN + tuple(ROWS), WORDS)
        self.assertEqual(WORDS, TOLD_WORDS)

    def test_words_without_parts(self):
        for word in PLAIN:
            self.yes((word,))
            for more in MORE:
                self.no((word, more))
                self.no((word, more, more))

    def test_words_with_their_parts(self):
        for row in ROWS.values():
            self.yes(row)

    def test_a_part_out_or_more(self):
        for row in ROWS.values():
            for at in range(len(row)):
                self.no(row[:at] + row[at + 1:])
                self.no(row[:at] + (row[at],) + row[at:])
                for more in MORE:
                    self.no(row[:at] + (more,) + row[at:])
            for more in MORE:
                self.no(row + (more,))
            self.no(row[:1])

    def test_parts_turned_about(self):
        for row in ROWS.values():
            self.no(row[::-1])
            if len(row) == 3:
                self.no((row[0], row[2], row[1]))

    def test_a_part_of_another_kind_of_value(self):
        bottom = deep()
        for row in ROWS.values():
            for at in range(1, len(row)):
                if isinstance(row[at], str):
                    others = (0, 1, -1, True, False, (), ("Kind",), ("field",), (row[at],), bottom)
                else:
                    others = ("", "0", "5", "num", "a", "r0", True, False, (), (0,), (row[at],), bottom)
                for other in others:
                    if is_unit(kind_of_row(row[:at] + (other,) + row[at + 1:])) is not False:
                        self.fail(f"another kind of value at {at} of {row[0]}")

    def test_words_that_are_none(self):
        rows = [(word,) for word in PLAIN] + list(ROWS.values())
        for word in (
            "", "Ask", "ASK", "ask ", " ask", "asks", "as", "no", "nop", "kind", "face", "way", "at", "mark", "catch",
            "field", "div", "mod", "label", "\n", 0, 1, 12, True, (), ("ask",), deep(),
        ):
            for row in rows:
                if is_unit(kind_of_row((word,) + row[1:])) is not False:
                    self.fail(f"a row like {row[0]} whose word is none")

    def test_rows_that_are_no_tuples_of_a_word(self):
        for row in ("ask", "give", "", 0, 7, True, (), ((),), (("ask",),), (("num", 1),), (0, 0), deep()):
            if is_unit(kind_of_row(row)) is not False:
                self.fail(f"a row of {type(row).__name__}")


class Parts(Case):

    def test_boxes(self):
        for word in ("get", "put"):
            for box in range(8):
                self.yes((word, box))
            for box in (-1, 8, 9, -8, 40, 10 ** 30):
                self.no((word, box))

    def test_any_number_of_the_mill_stands_behind_num_alone(self):
        for number in (-1, 8, 40, 41, 999999999999):
            self.yes(("num", number))
            for word in ("get", "put", "jump", "nought"):
                self.no((word, number))

    def test_what_a_row_names_need_not_be_there(self):
        for row in (
            ("fits", "Nobody"), ("new", "Nobody"), ("read", "Nobody", "nothing"), ("write", "Nobody", "nothing"),
            ("call", "Nobody", "nothing"), ("hail", "Nobody", "nothing"), ("hail", "Kind", "nothing"),
            ("read", "Kind", "nothing"), ("call", "Kind", "nothing"), ("call", "Kind", "num"), ("fits", "Num"),
        ):
            self.yes(row)

    def test_num_is_no_unit_name(self):
        for row in (
            ("fits", "num"), ("new", "num"), ("read", "num", "a"), ("write", "num", "a"), ("call", "num", "a"),
            ("hail", "num", "a"),
        ):
            self.no(row)


class Leads(unittest.TestCase):

    def told(self, word, at):
        rows = (("ask",), (word, at), ("ask",), ("ask",), ("ask",))
        return is_unit(kind_of_way(rows=rows, entries=((0, 0), (1, 1), (3, 8))))

    def test_to_an_entry_of_whatever_height(self):
        for word in ("jump", "nought"):
            for at in (0, 1, 3):
                self.assertIs(self.told(word, at), True, (word, at))

    def test_to_what_is_no_entry(self):
        for word in ("jump", "nought"):
            for at in (2, 4):
                self.assertIs(self.told(word, at), False, (word, at))

    def test_to_what_is_no_row(self):
        for word in ("jump", "nought"):
            for at in (-1, -5, 5, 6, 40, 10 ** 30):
                self.assertIs(self.told(word, at), False, (word, at))

    def test_where_there_are_no_entries(self):
        for word in ("jump", "nought"):
            for at in (-1, 0, 1):
                self.assertIs(is_unit(kind_of_way(rows=((word, at),))), False, (word, at))
        self.assertIs(is_unit(kind_of_way(rows=(("jump", 0),), entries=((0, 0),))), True)

    def test_to_an_entry_of_another_way_alone(self):
        there = ("there", (), "num", (("ask",),), ((0, 0),), ())
        here = ("here", (), "num", (("jump", 0),), (), ())
        self.assertIs(is_unit(("kind", "Kind", "", (), (), (there, here))), False)
        self.assertIs(is_unit(("kind", "Kind", "", (), (), (there,))), True)


if __name__ == "__main__":
    unittest.main()
