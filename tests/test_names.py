"""[5]: numbers of the mill, unit names, names and types, at each place where one stands."""

import unittest

from samples import NAME_PLACES, NUMBER_PLACES, TYPE_PLACES, UNIT_PLACES, deep, kind_of_row
from strangemill.units import is_unit

# Whatever sign stands behind the first one, it is none of these: among them
# letters and figures of other scripts, and half of a pair of signs.
WRONG_SIGNS = (
    "_", "-", ".", "`", "{", "/", ":", "@", "[", "~", " ", "\n", "\t", "\r", "\0",
    "A", "M", "Z", "\u00e9", "\u00df", "\u03b1", "\u0430", "\u00b2", "\u0663", "\u00aa",
    "\uff41", "\uff11", "\ud800", "\U0001f600",
)

# Each begins neither a unit name nor a name.
WRONG_FIRSTS = (
    "0", "9", "_", "-", " ", "\n", "@", "[", "`", "{", "\u00c9", "\u0391", "\u00e9",
    "\u0410", "\uff21", "\uff41", "\ud800",
)

# None is a text at all.
NO_TEXTS = (0, 1, -1, 65, 10 ** 30, True, False, (), ("Aa",), ("a",), ("A", "a"), ((),), deep())

TAILS = ("", "a", "z", "0", "9", "abcdefghijk", "lmnopqrstuv", "wxyz0123456", "78900000000")


def shown(thing):
    """Part of a text or number; of a tuple its length, as it may be too deep to show."""
    if isinstance(thing, tuple):
        return f"a tuple of {len(thing)}"
    return ascii(thing)[:40]


class Names(unittest.TestCase):

    def each(self, places, thing, expected):
        for place, unit in places.items():
            told = is_unit(unit(thing))
            if told is not expected:
                self.fail(f"{told} for {shown(thing)} at {place}")

    def test_right_unit_names(self):
        for first in "ABCDEFGHIJKLMNOPQRSTUVWXY":
            for tail in TAILS:
                self.each(UNIT_PLACES, first + tail, True)
        self.each(UNIT_PLACES, "Zz", True)

    def test_right_names(self):
        for first in "abcdefghijklmnopqrstuvwxyz":
            for tail in TAILS:
                self.each(NAME_PLACES, first + tail, True)
        self.each(NAME_PLACES, "num", True)
        self.each(NAME_PLACES, "kind", True)

    def test_lengths(self):
        for many in range(1, 13):
            self.each(UNIT_PLACES, "K" + "e" * (many - 1), True)
            self.each(NAME_PLACES, "k" + "e" * (many - 1), True)
        for many in (13, 14, 24, 100000):
            self.each(UNIT_PLACES, "K" + "e" * (many - 1), False)
            self.each(NAME_PLACES, "k" + "e" * (many - 1), False)

    def test_the_text_without_signs_is_none_and_stands_for_no_kind_above(self):
        for place, unit in UNIT_PLACES.items():
            self.assertIs(is_unit(unit("")), place == "above", place)
        self.each(NAME_PLACES, "", False)

    def test_wrong_first_signs(self):
        for first in WRONG_FIRSTS:
            for tail in ("", "a", "ab1", "Ab", "abcdefghijk"):
                self.each(NAME_PLACES, first + tail, False)
                self.each(UNIT_PLACES, first + tail, False)

    def test_a_name_is_no_unit_name_and_a_unit_name_is_no_name(self):
        for name in ("k", "kind", "k1", "abcdefghijkl"):
            self.each(UNIT_PLACES, name, False)
        for name in ("K", "Kind", "K1", "Abcdefghijkl", "Num"):
            self.each(NAME_PLACES, name, False)

    def test_wrong_signs_behind_the_first(self):
        for sign in WRONG_SIGNS:
            for at in range(1, 12):
                tail = "bcdefghij12"
                wrong = tail[:at - 1] + sign + tail[at:]
                self.each(UNIT_PLACES, "A" + wrong, False)
                self.each(NAME_PLACES, "a" + wrong, False)
            self.each(UNIT_PLACES, "A" + sign, False)
            self.each(NAME_PLACES, "a" + sign, False)

    def test_signs_of_ascii_one_by_one(self):
        smalls = "abcdefghijklmnopqrstuvwxyz"
        capitals = smalls.upper()
        for code in range(128):
            sign = chr(code)
            behind = sign in smalls + "0123456789"
            self.each(UNIT_PLACES, "Kk" + sign, behind)
            self.each(NAME_PLACES, "kk" + sign, behind)
            self.each(UNIT_PLACES, sign + "k", sign in capitals)
            self.each(NAME_PLACES, sign + "k", sign in smalls)

    def test_no_texts(self):
        for thing in NO_TEXTS:
            self.each(UNIT_PLACES, thing, False)
            self.each(NAME_PLACES, thing, False)


class Types(unittest.TestCase):

    def test_num_is_one_and_no_unit_name(self):
        for place, unit in UNIT_PLACES.items():
            self.assertIs(is_unit(unit("num")), place in TYPE_PLACES, place)

    def test_unit_names_are(self):
        for place in TYPE_PLACES:
            for name in ("N", "Num", "Kind", "Abcdefghijkl"):
                self.assertIs(is_unit(UNIT_PLACES[place](name)), True, place)

    def test_what_is_neither(self):
        for place in TYPE_PLACES:
            for thing in ("", "NUM", "nuM", "num ", " num", "num\n", "nums", "nu", "any", "kind", "n", 0, 1, ("num",)):
                self.assertIs(is_unit(UNIT_PLACES[place](thing)), False, (place, thing))


class Numbers(unittest.TestCase):

    def test_the_reach_of_the_mill(self):
        for number in (-1000000000000, -999999999999, -1, 0, 1, 999999999998, 999999999999):
            self.assertIs(is_unit(kind_of_row(("num", number))), True, number)
        for number in (-1000000000001, 1000000000000, 2000000000000, -2000000000000, 10 ** 3000, -10 ** 3000):
            self.assertIs(is_unit(kind_of_row(("num", number))), False, str(number)[:20])

    def test_the_ends_of_each_place(self):
        for place, (unit, least, greatest) in NUMBER_PLACES.items():
            for number in (least, greatest):
                self.assertIs(is_unit(unit(number)), True, (place, number))
            for number in (least - 1, greatest + 1, -10 ** 13, 10 ** 13, 10 ** 3000, -10 ** 3000):
                self.assertIs(is_unit(unit(number)), False, place)

    def test_truths_are_no_numbers(self):
        for place, (unit, _, _) in NUMBER_PLACES.items():
            for truth in (True, False):
                self.assertIs(is_unit(unit(truth)), False, (place, truth))

    def test_no_numbers(self):
        for place, (unit, _, _) in NUMBER_PLACES.items():
            for thing in ("", "0", "1", "7", "r0", (), (0,), (1,), (0, 1), ((),), deep()):
                if is_unit(unit(thing)) is not False:
                    self.fail(f"{shown(thing)} at {place}")


if __name__ == "__main__":
    unittest.main()
