"""[10]: where lines may stand, what stands there twice or is one more, and the lines of the second round."""

import unittest

from refusals import bad_line
from samples import GIVE, WORDS, face, kind, kind_of_way, way
from strangemill.texts import read_unit


def text(*lines):
    return "\n".join(lines)


def of_way(*lines):
    """A kind's text with these lines behind that of its way, which is line 1."""
    return text("kind Kind", "way way gives num", *lines)


class Case(unittest.TestCase):

    def right(self, *lines):
        self.assertIsNone(bad_line(text(*lines)), lines)

    def wrong(self, line, *lines):
        self.assertEqual(bad_line(text(*lines)), line, lines)

    def wrong_way(self, line, *lines):
        self.assertEqual(bad_line(of_way(*lines)), line, lines)

    def told(self, unit, *lines):
        self.assertEqual(read_unit(text(*lines)), unit, lines)

    def told_way(self, parts, *lines):
        self.assertEqual(read_unit(of_way(*lines)), kind_of_way(**parts), lines)


class Units(Case):

    def test_a_kind_with_all_there_may_be(self):
        self.told(
            kind("Kind", "Top", ("One", "Two"), (("a", "num"), ("b", "Kind")), (
                way("first", ("num", "Kind"), "Kind", (
                    ("get", 1), ("nought", 3), ("jump", 0), ("num", -7), ("throw",), ("drop",), ("give",),
                ), ((0, 0), (3, 2), (5, 1)), ((0, 3, 5), (1, 7, 5))),
                way("next"),
            )),
            "kind Kind above Top faces One Two",
            "field a num", "field b Kind",
            "way first num Kind gives Kind",
            "catch top low down", "catch mid end down",
            "at top 0", "get 1",
            "mark mid", "nought low", "jump top",
            "at low 2", "num -7", "throw",
            "at down 1", "drop", "give",
            "mark end",
            "way next gives num", "num 1", "give",
        )

    def test_a_face(self):
        self.told(
            face("Face", (("one", (), "num"), ("two", ("num", "Face"), "Kind"), ("gives", ("Num",), "num"))),
            "face Face", "way one gives num", "way two num Face gives Kind", "way gives Num gives num",
        )

    def test_a_kind_alone(self):
        self.told(kind(), "kind Kind")
        self.told(kind(fields=(("a", "num"),)), "kind Kind", "field a num")
        self.told(kind(ways=(way(),)), "kind Kind", "way way gives num", "num 1", "give")

    def test_it_tells_the_same_again(self):
        for _ in range(3):
            self.told(kind("A", "B"), "kind A above B")
            self.wrong(1, "kind A", "kind B")


class Labels(Case):

    def test_words_of_the_mill_may_be_labels(self):
        for word in WORDS + ("kind", "face", "field", "way", "catch", "at", "mark", "above", "faces", "gives"):
            self.told_way(
                {"rows": (("ask",), ("jump", 0)), "entries": ((0, 1),), "catches": ((0, 2, 0),)},
                f"catch {word} z {word}", f"at {word} 1", "ask", f"jump {word}", "mark z",
            )
            self.told_way({"rows": GIVE}, f"mark {word}", "num 1", "give")

    def test_several_at_one_row(self):
        self.told_way(
            {"rows": (("ask",), ("jump", 1), ("jump", 1), ("nought", 1)), "entries": ((1, 1),),
             "catches": ((1, 4, 1), (0, 1, 1))},
            "catch b z c", "catch f a d", "mark f", "ask", "mark a", "mark b", "at c 1", "mark d", "jump a", "jump b",
            "nought d", "mark y", "mark z",
        )

    def test_behind_the_last_row(self):
        self.told_way({"rows": GIVE}, "num 1", "give", "mark a", "mark b")
        self.told_way(
            {"rows": GIVE, "entries": ((1, 1),), "catches": ((1, 2, 1),)}, "catch a b a", "num 1", "at a 1", "give", "mark b",
        )
        self.told(
            kind(ways=(way("one"), way("two"))),
            "kind Kind", "way one gives num", "num 1", "give", "mark a", "way two gives num", "num 1", "give", "mark a",
        )

    def test_labels_of_several_ways_may_be_alike(self):
        self.told(
            kind(ways=(way("one", rows=(("jump", 0),), entries=((0, 0),)),
                       way("two", rows=(("ask",), ("jump", 1)), entries=((1, 1),)))),
            "kind Kind", "way one gives num", "at a 0", "jump a", "way two gives num", "ask", "at a 1", "jump a",
        )

    def test_told_by_at_or_by_mark(self):
        for lines in (("at a 1", "mark b"), ("mark b", "at a 1")):
            for label in "ab":
                self.told_way(
                    {"rows": (("nought", 0), ("give",)), "entries": ((0, 1),), "catches": ((0, 1, 0),)},
                    f"catch {label} c {label}", *lines, f"nought {label}", "mark c", "give",
                )

    def test_labels_never_used(self):
        self.told_way({"rows": GIVE, "entries": ((0, 3), (1, 0))}, "at a 3", "num 1", "mark b", "at c 0", "give", "mark d")


class Standing(Case):

    FACE = ("face Face", "way one gives num", "way two gives num")

    def test_in_a_face(self):
        for line in ("field a num", "give", "num 1", "jump a", "at a 1", "mark a", "catch a b c", "kind Kind", "face Face"):
            for at in (1, 2, 3):
                self.wrong(at, *self.FACE[:at], line, *self.FACE[at:])

    def test_a_second_first_line(self):
        lines = ("kind Kind", "field a num", "way way gives num", "num 1", "give")
        for line in ("kind Kind", "kind Other", "face Face", "kind A above B faces C"):
            for at in range(1, 6):
                self.wrong(at, *lines[:at], line, *lines[at:])

    def test_a_field_behind_a_way(self):
        self.wrong(2, "kind Kind", "way way gives num", "field a num", "give")
        self.wrong(3, "kind Kind", "way way gives num", "give", "field a num")
        self.wrong(3, "kind Kind", "way way gives num", "mark a", "field a num", "give")
        self.wrong(4, "kind Kind", "field a num", "way way gives num", "give", "field b num")

    def test_a_catch_behind_a_row_or_a_label(self):
        for line in ("ask", "at a 1", "mark a", "mark b"):
            self.wrong_way(3, line, "catch a b a", "give", "mark c")
            self.wrong_way(4, "catch a b a", line, "catch a b a", "give", "mark c")
        self.right(
            "kind Kind", "way one gives num", "at a 1", "give", "way two gives num", "catch a b a", "at a 1", "give", "mark b",
        )

    def test_ahead_of_all_ways(self):
        for line in ("give", "num 1", "jump a", "at a 1", "mark a", "catch a b c", "read A a", "nought a"):
            self.wrong(1, "kind Kind", line)
            self.wrong(1, "kind Kind", line, "way way gives num", "give")
            self.wrong(1, "kind Kind", line, "field a num")
            self.wrong(2, "kind Kind", "field a num", line, "way way gives num", "give")
            self.wrong(1, "face Face", line, "way way gives num")


class Twice(Case):

    def test_fields(self):
        self.wrong(2, "kind Kind", "field a num", "field a num")
        self.wrong(3, "kind Kind", "field a num", "field b num", "field a Kind", "field b num")
        self.right("kind Kind", "field a num", "field a1 num", "way a gives num", "give")

    def test_ways(self):
        self.wrong(3, "kind Kind", "way a gives num", "give", "way a gives num", "give")
        self.wrong(5, "kind Kind", "way a gives num", "give", "way b gives num", "give", "way a num gives Kind", "give")
        self.wrong(2, "kind Kind", "way a gives num", "way a gives num", "give")

    def test_signatures(self):
        self.wrong(2, "face Face", "way a gives num", "way a gives num")
        self.wrong(3, "face Face", "way a gives num", "way b gives num", "way a num gives Kind", "way b gives num")

    def test_labels(self):
        for first in ("at a 1", "mark a", "at a 0"):
            for second in ("at a 1", "mark a", "at a 2"):
                self.wrong_way(3, first, second, "give")
                self.wrong_way(4, first, "ask", second, "give")
                self.wrong_way(4, first, "give", second)
                self.wrong_way(5, first, "ask", "mark b", second, "mark b")
        self.wrong_way(5, "ask", "mark a", "mark b", "mark a", "give", "mark b")


class OneMore(Case):

    def test_fields(self):
        fields = [f"field f{at} num" for at in range(8)]
        self.right("kind Kind", *fields[:6])
        self.wrong(7, "kind Kind", *fields[:7])
        self.wrong(7, "kind Kind", *fields)

    def test_ways(self):
        ways = [line for at in range(10) for line in (f"way w{at} gives num", "give")]
        self.right("kind Kind", *ways[:16])
        self.wrong(17, "kind Kind", *ways[:18])
        self.wrong(17, "kind Kind", *ways)

    def test_signatures(self):
        ways = [f"way w{at} gives num" for at in range(10)]
        self.right("face Face", *ways[:1])
        self.right("face Face", *ways[:8])
        self.wrong(9, "face Face", *ways[:9])
        self.wrong(9, "face Face", *ways)

    def test_rows(self):
        self.right("kind Kind", "way way gives num", *["ask"] * 40)
        self.wrong_way(42, *["ask"] * 41)
        self.wrong_way(42, *["ask"] * 50)
        self.wrong_way(44, *["ask"] * 39, "at a 1", "mark b", *["ask"] * 2)
        self.right("kind Kind", "way way gives num", *["ask"] * 40, "mark a", "way next gives num", *["ask"] * 40, "mark a")
        self.wrong(83, "kind Kind", "way way gives num", *["ask"] * 40, "way next gives num", *["ask"] * 41)

    def test_catches(self):
        behind = ("at a 1", "give", "mark b")
        self.right("kind Kind", "way way gives num", *["catch a b a"] * 4, *behind)
        self.wrong_way(6, *["catch a b a"] * 5, *behind)
        self.wrong_way(6, *["catch a b a"] * 9, *behind)
        self.right(
            "kind Kind", "way one gives num", *["catch a b a"] * 4, *behind, "way two gives num", *["catch a b a"] * 4, *behind,
        )

    def test_faces_and_takes(self):
        self.wrong(0, "kind Kind faces A B C D")
        self.wrong(1, "kind Kind", "way way A A A A A A A gives num", "give")
        self.wrong(1, "face Face", "way way A A A A A A A gives num")
        self.wrong(2, "face Face", "way one gives num", "way way A A A A A A A gives num")

    def test_entries_and_labels_are_as_many_as_you_like(self):
        lines = [line for at in range(40) for line in (f"at a{at} {at % 9}", f"mark b{at}", f"mark c{at}", "ask")]
        self.told_way(
            {"rows": (("ask",),) * 40, "entries": tuple((at, at % 9) for at in range(40))},
            *lines, *(f"mark d{at}" for at in range(300)),
        )


class SecondRound(Case):

    def test_a_label_that_the_way_does_not_have(self):
        for word in ("jump", "nought"):
            self.wrong_way(2, f"{word} a")
            self.wrong_way(4, "ask", "ask", f"{word} a", "at b 0", "give", f"{word} c")
            self.wrong(
                4, "kind Kind", "way one gives num", "at a 0", "ask", f"{word} b",
                "way two gives num", "at b 0", "give",
            )
            self.wrong(
                5, "kind Kind", "way one gives num", "at a 0", "ask",
                "way two gives num", f"{word} a", "at b 0", "give",
            )
        for catch in ("catch x b a", "catch a x a", "catch a b x", "catch x x x"):
            self.wrong_way(2, catch, "at a 1", "give", "mark b")
            self.wrong_way(3, "catch a b a", catch, catch, "at a 1", "give", "mark b")

    def test_what_leads_to_no_entrys_row(self):
        for word in ("jump", "nought"):
            self.wrong_way(3, "mark a", f"{word} a")
            self.wrong_way(2, f"{word} a", "mark a", "give")
            self.wrong_way(3, "at b 1", f"{word} a", "mark a", "ask")
            self.wrong_way(2, f"{word} a", "mark a")
            self.wrong_way(4, "at b 1", "ask", f"{word} a", "give", "mark a")
            self.wrong_way(3, "ask", f"{word} a", "at a 1")

    def test_a_catch_whose_at_is_of_another_height(self):
        for height in (0, 2, 3, 4, 5, 6, 7, 8):
            self.wrong_way(2, "catch a b a", f"at a {height}", "give", "mark b")
            self.wrong_way(3, "catch a b c", "catch a b d", "at a 0", "give", "mark b", "at c 1", "give", "mark d1",
                           f"at d {height}", "give")
        self.right("kind Kind", "way way gives num", "catch a b a", "at a 1", "give", "mark b")

    def test_a_catch_whose_at_is_of_no_entry(self):
        self.wrong_way(2, "catch a b c", "mark a", "ask", "mark b", "mark c", "give")
        self.wrong_way(2, "catch a b b", "at a 1", "ask", "mark b")
        self.wrong_way(2, "catch a b c", "at a 1", "ask", "mark b", "at c 1")
        self.wrong_way(2, "catch a b c", "at a 1", "ask", "mark c", "ask", "mark b")

    def test_a_catch_whose_from_is_not_ahead_of_its_to(self):
        lines = ("at a 1", "mark b", "ask", "mark c", "mark d", "ask", "mark e", "mark f")
        for first in "abcdef":
            for end in "abcdef":
                catch = f"catch {first} {end} b"
                ahead = "abcdef".index(first) // 2 < "abcdef".index(end) // 2
                self.assertEqual(bad_line(of_way(catch, *lines)), None if ahead else 2, catch)
                self.assertEqual(bad_line(of_way("catch a f a", catch, *lines)), None if ahead else 3, catch)

    def test_an_at_with_no_row_behind_it(self):
        for height in range(9):
            self.wrong_way(3, "give", f"at a {height}")
            self.wrong_way(4, "give", "mark b", f"at a {height}", "mark c")
        self.wrong_way(3, "give", "at a 1", "at b 1")
        self.wrong(3, "kind Kind", "way one gives num", "give", "at a 0", "way two gives num", "give")

    def test_the_later_of_two_ahead_of_one_row(self):
        self.wrong_way(3, "at a 1", "at b 1", "give")
        self.wrong_way(5, "at a 1", "mark c", "mark d", "at b 1", "mark e", "give")
        self.wrong_way(3, "at a 1", "at b 1", "at c 1", "give")
        self.wrong_way(5, "at a 1", "ask", "at b 1", "at c 1", "give")

    def test_the_first_of_two_makes_the_entry(self):
        self.wrong_way(2, "catch a z a", "at b 2", "at a 1", "give", "mark z")
        self.wrong_way(4, "catch a z a", "at b 1", "at a 2", "give", "mark z")
        self.wrong_way(3, "at b 1", "at a 2", "jump a")

    def test_a_way_of_a_kind_without_rows(self):
        self.wrong(1, "kind Kind", "way way gives num")
        self.wrong(3, "kind Kind", "way one gives num", "give", "way two gives num")
        self.wrong(1, "kind Kind", "way one gives num", "way two gives num", "give")
        self.wrong(1, "kind Kind", "way one gives num", "catch a b a", "at a 1", "mark b")
        self.wrong(1, "kind Kind", "way one gives num", "at a 1", "way two gives num", "give")

    def test_a_face_without_signatures(self):
        self.wrong(0, "face Face")
        self.wrong(1, "face Face", "")
        self.wrong(1, "face Face", "field a num")


class Rounds(Case):

    def test_the_least_of_the_first_round(self):
        self.wrong(1, "kind Kind", "field a", "field a num", "field a num", "give", "")
        self.wrong(2, "kind Kind", "field a num", "field a num", "field a", "give", "")
        self.wrong(2, "kind Kind", "field a num", "give", "field a", "field a num")
        self.wrong(0, "kind kind", "field a", "give")

    def test_the_first_round_goes_ahead_of_the_second(self):
        self.wrong_way(4, "jump a", "at b 1", "at b 1")
        self.wrong_way(6, "catch a b c", "jump a", "at x 8", "at y 1", "nothing")
        self.wrong(4, "kind Kind", "way one gives num", "way two gives num", "give", "gives")
        self.wrong(2, "kind Kind", "way one gives num", "field a num")
        self.wrong(3, "kind Kind", "way one gives num", "jump a", "")
        self.wrong(1, "face Face", "give")
        self.wrong_way(42, "jump a", *["ask"] * 40)

    def test_the_least_of_the_second_round(self):
        self.wrong_way(2, "catch x b a", "catch a b x", "jump x", "at a 1", "at b 1")
        self.wrong_way(3, "catch a b a", "catch a b x", "jump x", "at a 1", "give", "mark b")
        self.wrong_way(3, "at a 1", "at b 1", "jump x")
        self.wrong_way(3, "at a 1", "jump x", "at b 1", "at c 1", "give")
        self.wrong_way(5, "at a 1", "jump a", "at b 1", "at c 1", "jump x", "at d 1")
        self.wrong_way(4, "at a 1", "jump a", "jump x", "at b 1", "at c 1", "give", "at d 1")
        self.wrong(3, "kind Kind", "way one gives num", "ask", "jump x", "way two gives num", "way three gives num", "jump x")
        self.wrong(2, "kind Kind", "way one gives num", "jump x", "way two gives num", "at a 1")
        self.wrong(3, "kind Kind", "way one gives num", "ask", "way two gives num", "at a 1", "way three gives num", "jump x")

    def test_faults_of_both_rounds_in_several_ways(self):
        self.wrong(
            8, "kind Kind", "way one gives num", "way two gives num", "jump x", "at a 1", "at b 1", "give", "at c 1",
            "way two gives num", "jump x",
        )


class LongTexts(Case):

    def test_texts_of_14000_signs_and_somewhat_more(self):
        head = "kind Kind\nway way gives num\nnum 1\ngive"
        marks = "".join(f"\nmark m{at}" for at in range(1, 1500))
        self.assertGreater(len(head + marks), 14000)
        self.assertEqual(read_unit(head + marks), kind_of_way(rows=GIVE))
        self.assertEqual(bad_line(head + marks + "\nmark m1"), 1503)
        self.assertEqual(bad_line(head + "\nmark " + "m" * 14000), 4)
        self.assertEqual(bad_line("\n" * 14000), 0)
        self.assertEqual(bad_line("kind Kind" + "\n" * 14000), 1)
        self.assertEqual(bad_line("kind Kind" + " " * 14000), 0)


if __name__ == "__main__":
    unittest.main()
