"""[13]: each way in which a code of a pack is not right, and its place."""

import random
import unittest

from chance import units
from refusals import bad_code, refusal
from samples import face, kind, way
from strangemill.errors import BadCode
from strangemill.packs import packed, unpacked
from strangemill.units import is_unit

UNIT = kind("K", "A", ("F", "G"), (("a", "num"), ("b", "K")), (
    way("w", ("num", "B"), "K", (
        ("num", 5), ("get", 1), ("nought", 3), ("read", "K", "a"), ("jump", 0), ("drop",), ("put", 7), ("give",),
    ), ((0, 0), (3, 2), (5, 1)), ((0, 3, 5), (4, 8, 5))),
    way("v", (), "num", (("fits", "F"), ("give",))),
))

WORDS = ("K", "A", "F", "G", "a", "b", "w", "B", "v")

# The codes of UNIT, each with a name by which the tests tell its place.
CODES = {
    "sort": 1, "name": 0, "above": 2,
    "faces": 2, "face 0": 2, "face 1": 3,
    "fields": 2, "field 0": 4, "type 0": 0, "field 1": 5, "type 1": 1,
    "ways": 2,
    "way": 6, "takes": 2, "take 0": 0, "take 1": 8, "gives": 1,
    "rows": 8,
    "num": 12, "num n": 5, "get": 13, "get b": 1, "nought": 22, "nought r": 6, "read": 17, "read U": 0, "read name": 4,
    "jump": 21, "jump r": 0, "drop": 2, "put": 14, "put b": 7, "give": 10,
    "entries": 3, "row 0": 0, "height 0": 0, "row 1": 6, "height 1": 2, "row 2": 11, "height 2": 1,
    "catches": 2, "from 0": 0, "to 0": 6, "at 0": 11, "from 1": 9, "to 1": 15, "at 1": 11,
    "next way": 8, "next takes": 0, "next gives": 0,
    "next rows": 2, "fits": 15, "fits U": 2, "next give": 10, "next entries": 0, "next catches": 0,
}

PLACES = {name: place for place, name in enumerate(CODES)}

FACE = face("F", (("a", ("num", "B"), "F"), ("b", (), "B")))
FACE_WORDS = ("F", "a", "B", "b")
FACE_CODES = {
    "sort": 2, "name": 0, "many": 2,
    "first": 1, "takes": 2, "take 0": 0, "take 1": 3, "gives": 1,
    "second": 3, "next takes": 0, "next gives": 3,
}

FAR = (-10 ** 12, 10 ** 12, 10 ** 30, -10 ** 30, 10 ** 5000, -10 ** 5000)


def shown(code):
    """The number, or how many bits it has, as Python writes none of some thousand figures."""
    return code if code.bit_length() < 200 else f"{code.bit_length()} bits"


class Case(unittest.TestCase):

    def place(self, changes, words=WORDS):
        """The refused place of the codes of UNIT with some of them changed."""
        return bad_code(words, tuple({**CODES, **changes}.values()))

    def wrong(self, name, *codes, words=WORDS, ahead={}):
        """None of these codes is right there, whatever is wrong behind it."""
        for code in codes:
            for behind in ({}, {"next catches": -1}, {"give": -1}):
                behind = {one: worth for one, worth in behind.items() if PLACES[one] > PLACES[name]}
                changes = {**ahead, **behind, name: code}
                self.assertEqual(self.place(changes, words), PLACES[name], (name, shown(code)))

    def right(self, name, *codes, words=WORDS):
        """Each of these codes is right there; behind it, or where a row leads, one may be wrong by it."""
        leads = [PLACES[one] for one in ("nought r", "jump r") if one != name]
        for code in codes:
            place = self.place({name: code}, words)
            self.assertTrue(place is None or place > PLACES[name] or place in leads, (name, code, place))

    def every(self, name, *rights):
        """Of the codes from -3 to 60 just these are right there."""
        self.wrong(name, *[code for code in range(-3, 61) if code not in rights], *FAR)
        self.right(name, *rights)

    def unit(self, changes):
        return unpacked(WORDS, tuple({**CODES, **changes}.values()))


class Counts(Case):

    def test_the_pack_as_it_stands(self):
        self.assertEqual(packed(UNIT), (WORDS, tuple(CODES.values())))
        self.assertEqual(self.unit({}), UNIT)
        self.assertEqual(packed(FACE), (FACE_WORDS, tuple(FACE_CODES.values())))

    def test_the_first_code(self):
        self.every("sort", 1, 2)
        self.assertEqual(bad_code((), (0,)), 0)
        self.assertEqual(bad_code(("K",), (3, 0, 0, 0, 0, 0)), 0)

    def test_faces_of_a_kind(self):
        self.every("faces", 0, 1, 2, 3)

    def test_fields(self):
        self.every("fields", 0, 1, 2, 3, 4, 5, 6)

    def test_ways(self):
        self.every("ways", 0, 1, 2, 3, 4, 5, 6, 7, 8)

    def test_takes(self):
        self.every("takes", 0, 1, 2, 3, 4, 5, 6)
        self.every("next takes", 0, 1, 2, 3, 4, 5, 6)

    def test_rows(self):
        self.every("rows", *range(1, 41))
        self.every("next rows", *range(1, 41))

    def test_entries(self):
        self.every("entries", *range(9))
        self.every("next entries", 0, 1, 2)

    def test_catches(self):
        self.every("catches", 0, 1, 2, 3, 4)
        self.every("next catches", 0, 1, 2, 3, 4)

    def test_signatures(self):
        codes = tuple(FACE_CODES.values())
        for many in (0, 9, 10, 40) + FAR:
            self.assertEqual(bad_code(FACE_WORDS, codes[:2] + (many,) + codes[3:]), 2)
        for many in range(1, 9):
            told = bad_code(FACE_WORDS, codes[:2] + (many,) + codes[3:])
            self.assertEqual(told, {1: 8, 2: None}.get(many, 11))


class Numbers(Case):

    def test_numbers_of_the_mill(self):
        rights = (-1000000000000, 999999999999, -1, 0, 1, 40, 10 ** 11)
        self.right("num n", *rights)
        for number in rights:
            self.assertEqual(self.unit({"num n": number})[5][0][3][0], ("num", number))
        self.wrong("num n", -1000000000001, 1000000000000, 10 ** 30, -10 ** 30, 10 ** 5000)

    def test_boxes(self):
        self.every("get b", *range(8))
        self.every("put b", *range(8))

    def test_heights(self):
        self.every("height 0", *range(9))
        self.every("height 1", *range(9))
        # Catches want the entry at row 5 with height 1.
        self.wrong("height 2", 9, 10, *FAR)
        self.right("height 2", *range(9))

    def test_the_words_of_rows(self):
        self.every("num", *range(23))
        self.every("give", *range(23))
        self.every("next give", *range(23))

    def test_truths_are_no_numbers(self):
        for place, code in enumerate(CODES.values()):
            if code in (0, 1):
                codes = tuple(CODES.values())
                self.assertEqual(bad_code(WORDS, codes[:place] + (code == 1,) + codes[place + 1:]), place)


class Words(Case):

    def test_the_number_of_a_word_beyond_the_words_or_those_used(self):
        # Ahead of each place so many words were used; there the next one is
        # right where it is of the wanted sort.
        self.every("name", 0)
        self.every("above", 0, 1, 2)
        self.every("face 0", 0, 1, 2)
        self.every("face 1", 0, 1, 3)
        self.every("field 0", 4)
        self.every("type 0", 0, 1, 2, 3, 4)
        self.every("field 1", 5)
        self.every("type 1", 0, 1, 2, 3, 4)
        self.every("way", 4, 5, 6)
        self.every("take 0", 0, 1, 2, 3, 4, 8)
        self.every("take 1", 0, 1, 2, 3, 4, 8)
        self.every("gives", 0, 1, 2, 3, 4, 8)
        self.every("read U", 0, 1, 2, 3, 7)
        self.every("read name", 4, 5, 6, 8)
        self.every("next way", 4, 5, 8)
        self.every("next gives", 0, 1, 2, 3, 4, 8)
        self.every("fits U", 0, 1, 2, 3, 7)

    def test_beyond_the_words(self):
        for many in range(len(WORDS)):
            first = [name for name, place in PLACES.items() if name in (
                "name", "above", "face 0", "face 1", "field 0", "field 1", "way", "take 1", "next way")][many]
            self.assertEqual(bad_code(WORDS[:many], tuple(CODES.values())), PLACES[first])
        self.assertEqual(bad_code((), (1, 0, 0, 0, 0, 0)), 1)

    def test_a_word_that_is_no_name_of_the_wanted_sort(self):
        for at, name in enumerate(("name", "above", "face 0", "face 1", None, None, None, "take 1")):
            for word in ("k", "num", "", "KK", "K_", "Abcdefghijklm", "0", " K", "K ", "\n", "K\n", "\u00c9", "9K", "A" * 5000):
                if name:
                    self.assertEqual(self.place({}, WORDS[:at] + (word,) + WORDS[at + 1:]), PLACES[name], word)
        for at, name in ((4, "field 0"), (5, "field 1"), (6, "way"), (8, "next way")):
            for word in ("Z", "Num", "", "aA", "a_", "abcdefghijklm", "0", " a", "a ", "\n", "a\n", "\u00e9", "9a", "a" * 5000):
                self.assertEqual(self.place({}, WORDS[:at] + (word,) + WORDS[at + 1:]), PLACES[name], word)

    def test_a_word_of_the_other_sort_that_was_used(self):
        self.wrong("type 1", 5, 6)
        self.wrong("way", 0, 3)
        self.wrong("read U", 4, 6)
        self.wrong("read name", 0, 7)
        self.wrong("fits U", 8)

    def test_any_name_may_be_a_word(self):
        words = ("Num", "A", "F", "G", "num", "kind", "give", "B", "face")
        self.assertEqual(unpacked(words, tuple(CODES.values()))[4], (("num", "num"), ("kind", "Num")))

    def test_a_word_that_stands_there_twice(self):
        self.assertEqual(self.place({}, ("K", "K") + WORDS[2:]), PLACES["above"])
        self.assertEqual(self.place({}, ("K", "A", "F", "K") + WORDS[4:]), PLACES["face 1"])
        self.assertEqual(self.place({}, WORDS[:5] + ("a",) + WORDS[6:]), PLACES["field 1"])
        self.assertEqual(self.place({}, WORDS[:6] + ("b",) + WORDS[7:]), PLACES["way"])
        self.assertEqual(self.place({}, WORDS[:7] + ("G",) + WORDS[8:]), PLACES["take 1"])
        self.assertEqual(self.place({}, WORDS[:8] + ("w",)), PLACES["next way"])
        self.assertEqual(self.place({}, WORDS[:8] + ("a",)), PLACES["next way"])
        self.assertEqual(bad_code(("K", "a", "a"), (1, 0, 0, 0, 1, 2, 0, 0)), 5)

    def test_a_word_that_was_never_used(self):
        many = len(CODES)
        for more in (("z",), ("Z",), ("",), ("a",), ("K",), ("z", "z"), ("?", "Z"), ("z",) * 391):
            self.assertEqual(self.place({}, WORDS + more), many)
        self.assertEqual(bad_code(("K", "A"), (1, 0, 0, 0, 0, 0)), 6)
        self.assertEqual(bad_code(("K",), (1, 0, 0, 0, 0, 0)), None)
        # Of more words and codes left over the codes are told.
        self.assertEqual(bad_code(("K", "A"), (1, 0, 0, 0, 0, 0, 1, 1)), 6)
        self.assertEqual(bad_code(("K", "A"), (1, 0, 0, 0, 0)), 5)


class Names(Case):

    def test_a_face_of_a_kind_twice(self):
        self.wrong("face 1", 2)
        self.assertEqual(bad_code(("K", "F"), (1, 0, 0, 3, 1, 0, 1, 0, 0)), 6)
        self.assertEqual(bad_code(("K", "F"), (1, 0, 0, 3, 1, 0, 0, 0, 0)), 6)

    def test_a_field_twice(self):
        self.wrong("field 1", 4)
        self.assertEqual(bad_code(("K", "a", "b"), (1, 0, 0, 0, 3, 1, 0, 2, 0, 1, 0, 0)), 9)

    def test_a_way_twice(self):
        self.wrong("next way", 6)

    def test_a_signature_twice(self):
        codes = tuple(FACE_CODES.values())
        self.assertEqual(bad_code(FACE_WORDS, codes[:8] + (1,) + codes[9:]), 8)
        self.assertEqual(bad_code(("F", "a", "b"), (2, 0, 3, 1, 0, 0, 2, 0, 0, 1, 0, 0)), 9)

    def test_a_field_and_a_way_may_be_named_alike(self):
        self.right("way", 4, 5)
        self.right("next way", 4, 5)


class Rows(Case):

    STARTS = (0, 2, 4, 6, 9, 11, 12, 14)

    def test_an_entrys_row_that_is_none(self):
        # What is right must be the start of a row, behind the last entry's.
        self.every("row 0", *self.STARTS)
        self.every("row 1", *self.STARTS[1:])
        self.every("row 2", *self.STARTS[4:])

    def test_entries_that_do_not_rise(self):
        self.wrong("row 1", 0)
        self.wrong("row 2", 0, 2, 4, 6)
        self.wrong("row 2", 0, 2, 4, 6, 9, 11, 12, 14, ahead={"row 1": 14})
        self.wrong("row 1", 0, 2, 4, ahead={"row 0": 4})

    def test_the_end_is_no_entrys_row(self):
        self.wrong("row 2", 15)
        self.wrong("row 0", 15)

    def test_a_catchs_from(self):
        self.every("from 0", *self.STARTS)
        self.every("from 1", *self.STARTS)
        self.wrong("from 0", 15)

    def test_a_catchs_to(self):
        self.every("to 0", *self.STARTS[1:], 15)
        self.every("to 1", 11, 12, 14, 15)
        self.wrong("to 0", 0, 2, 4, ahead={"from 0": 4})
        self.wrong("to 0", *self.STARTS, ahead={"from 0": 14})
        self.right("to 0", 15)

    def test_a_catchs_at(self):
        self.every("at 0", 11)
        self.every("at 1", 11)
        for height in (0, 2, 8):
            self.assertEqual(self.place({"height 2": height}), PLACES["at 0"])
        self.assertEqual(self.unit({"height 1": 1, "at 1": 6})[5][0][5], ((0, 3, 5), (4, 8, 3)))
        self.assertEqual(self.place({"height 1": 1, "at 1": 15}), PLACES["at 1"])

    def test_a_catch_of_a_way_without_entries(self):
        codes = (1, 0, 0, 0, 0, 1, 1, 0, 0, 1, 0, 0, 1, 0, 1, 0)
        self.assertEqual(bad_code(("K", "w"), codes), 15)
        self.assertEqual(bad_code(("K", "w"), codes[:11] + (1, 0, 1) + codes[12:]), None)

    def test_rows_of_one_code_and_of_three(self):
        codes = (1, 0, 0, 0, 0, 1, 1, 0, 0, 3, 17, 0, 1, 0, 17, 0, 1, 1)
        for start in range(-1, 9):
            told = bad_code(("K", "w"), codes + (start, 0, 0))
            self.assertEqual(told, None if start in (0, 3, 4) else 18, start)


class Leads(Case):

    def test_a_jump_or_a_nought_to_no_entry(self):
        for name in ("nought r", "jump r"):
            for code in tuple(range(-3, 61)) + FAR:
                expected = None if code in (0, 6, 11) else PLACES[name]
                self.assertEqual(self.place({name: code}), expected, (name, shown(code)))

    def test_the_first_of_several(self):
        self.assertEqual(self.place({"nought r": 2, "jump r": 2}), PLACES["nought r"])
        self.assertEqual(self.place({"nought r": 6, "jump r": 2}), PLACES["jump r"])

    def test_it_is_found_behind_the_entries_and_the_catches(self):
        for name, code in (
            ("rows", 0), ("give", 23), ("entries", 9), ("row 0", 1), ("row 1", 0), ("row 2", 15), ("height 2", 9),
            ("catches", 5), ("from 0", 15), ("to 0", 0), ("at 0", 6), ("from 1", 1), ("to 1", 9), ("at 1", 0),
        ):
            self.assertEqual(self.place({"jump r": 2, "nought r": 4, name: code}), PLACES[name], name)

    def test_it_is_found_ahead_of_what_is_behind(self):
        for name, code in (
            ("next way", 6), ("next takes", 7), ("next gives", 77), ("fits", 23), ("next entries", 3), ("next catches", -1),
        ):
            self.assertEqual(self.place({"jump r": 2, name: code}), PLACES["jump r"], name)
        self.assertEqual(self.place({"jump r": 2}, WORDS + ("never",)), PLACES["jump r"])
        self.assertEqual(bad_code(WORDS, tuple({**CODES, "jump r": 2}.values()) + (1,)), PLACES["jump r"])
        self.assertEqual(bad_code(WORDS, tuple({**CODES, "jump r": 2}.values())[:PLACES["next way"]]), PLACES["jump r"])

    def test_codes_that_lack_are_found_ahead_of_it(self):
        codes = tuple({**CODES, "jump r": 2}.values())
        for place in range(PLACES["jump r"] + 1, PLACES["next way"]):
            self.assertEqual(bad_code(WORDS, codes[:place]), place)

    def test_without_catches_it_is_found_behind_their_number(self):
        codes = (1, 0, 0, 0, 0, 2, 1, 0, 0, 2, 21, 1, 0, 1, 0, 0)
        self.assertEqual(bad_code(("K", "w", "v"), codes + (0,)), 11)
        self.assertEqual(bad_code(("K", "w", "v"), codes), 16)
        self.assertEqual(bad_code(("K", "w", "v"), codes + (1,)), 17)
        self.assertEqual(bad_code(("K", "w", "v"), codes + (5,)), 16)
        self.assertEqual(bad_code(("K", "w", "v"), codes + (0, 99)), 11)

    def test_a_later_way(self):
        rows = {"next rows": 2, "fits": 21, "fits U": 0, "next entries": 0}
        self.assertEqual(self.place(rows), PLACES["fits U"])
        self.assertEqual(self.place({**rows, "jump r": 1}), PLACES["jump r"])


class Ends(Case):

    def test_codes_left_over(self):
        codes = tuple(CODES.values())
        for more in ((0,), (1,), (-1,), (1, 0, 0, 0, 0, 0), codes):
            self.assertEqual(bad_code(WORDS, codes + more), len(codes))
            self.assertEqual(bad_code(FACE_WORDS, tuple(FACE_CODES.values()) + more), len(FACE_CODES))
        self.assertEqual(bad_code(("K",), (1, 0, 0, 0, 0, 0, 0)), 6)

    def test_codes_that_lack(self):
        codes = tuple(CODES.values())
        for many in range(len(codes)):
            self.assertEqual(bad_code(WORDS, codes[:many]), many)
        codes = tuple(FACE_CODES.values())
        for many in range(len(codes)):
            self.assertEqual(bad_code(FACE_WORDS, codes[:many]), many)
        self.assertEqual(bad_code((), ()), 0)
        self.assertEqual(bad_code(("K",), ()), 0)

    def test_as_many_as_are_handed_in(self):
        self.assertEqual(bad_code(tuple(f"W{at}" for at in range(400)), (1,) * 2000), 1)
        self.assertEqual(bad_code(tuple(f"W{at}" for at in range(400)), (1, 0) + (0,) * 1998), 6)

    def test_what_is_refused_leaves_the_next_one_as_it_is(self):
        for _ in range(3):
            self.assertEqual(refusal(unpacked, WORDS, (1,)), (BadCode, 1))
            self.assertEqual(self.unit({}), UNIT)


class ByChance(unittest.TestCase):

    def changed(self, chance, words, codes):
        at = chance.randrange(len(codes))
        told = chance.randrange(6)
        if told == 0:
            return words, codes[:at] + codes[at + 1:]
        if told == 1:
            return words, codes[:at] + (chance.randrange(-1, 24),) + codes[at:]
        if told == 2:
            other = chance.randrange(len(words))
            return words[:other] + (chance.choice(words + ("z", "Z", "")),) + words[other + 1:], codes
        return words, codes[:at] + (codes[at] + chance.choice((-2, -1, 1, 2, 3)),) + codes[at + 1:]

    def test_whatever_is_handed_in_is_a_unit_or_is_refused_at_one_place(self):
        chance = random.Random(5)
        told = {True: 0, False: 0}
        for unit in units(500, 4):
            words, codes = packed(unit)
            for _ in range(4):
                words, codes = self.changed(chance, words, codes)
                place = bad_code(words, codes)
                told[place is None] += 1
                if place is None:
                    self.assertTrue(is_unit(unpacked(words, codes)))
                    self.assertEqual(packed(unpacked(words, codes)), (words, codes))
                else:
                    # What is ahead of the place is right, as far as it goes.
                    self.assertTrue(0 <= place <= len(codes))
                    self.assertIn(bad_code(words, codes[:place]), (None, place))
                    words, codes = packed(unit)
        self.assertGreater(min(told.values()), 100)


if __name__ == "__main__":
    unittest.main()
