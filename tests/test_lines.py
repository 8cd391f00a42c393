"""[9] and [10]: the forms of lines, each right and wrong, where a line of its sort may stand."""

import unittest

from refusals import bad_line
from samples import PLAIN, WORDS, face, kind, kind_of_way, way
from strangemill.texts import read_unit

# The way `none` has no rows, which is a fault of the second round: a wrong
# line behind it is told just where it is found in the first one.
LINES = (
    "kind Kind",
    "field total num",
    "way none gives num",
    "way way gives num",
    "catch here there here",
    "at here 1",
    "ask",
    "mark there",
    "jump here",
)
SORTS = ("kind", "field", "none", "way", "catch", "at", "row", "mark", "jump")

MILL = 1000000000000

# Each is the writing of no number at all.
NO_NUMBERS = (
    "-0", "+1", "+0", "00", "01", "007", "-01", "-00", "--1", "1-", "-", "+", "1_0", "1.0", "1e3", "0x1", "1,0", ".", "_1",
    "x", "one", "A", "r0", "9" * 5000, "-" + "9" * 5000, "0" * 5000, "1" + "0" * 13, "00000000000001", "-0000000000001",
)


def with_line(sort, line):
    """A text with a line in the place of the one of its sort, and the number of this line."""
    at = SORTS.index(sort)
    return "\n".join(LINES[:at] + (line,) + LINES[at + 1:]), at


class Case(unittest.TestCase):

    def right(self, sort, *lines):
        for line in lines:
            text, at = with_line(sort, line)
            self.assertEqual(bad_line(text), 2, line[:80])

    def wrong(self, sort, *lines):
        for line in lines:
            text, at = with_line(sort, line)
            self.assertEqual(bad_line(text), at, line[:80])

    def blanks(self, sort, line):
        """The line is right, and wrong with any blank more, with another sign for a blank, or without one."""
        self.right(sort, line)
        self.wrong(sort, " " + line, line + " ", "  " + line, line + "  ", "", " ", line + line, line.upper(), line + "\\")
        for at, sign in enumerate(line):
            if sign == " ":
                self.wrong(sort, line[:at] + " " + line[at:], line[:at] + "   " + line[at + 1:], line[:at] + "_" + line[at + 1:])
                self.wrong(sort, line[:at])
        if " " in line:
            self.wrong(sort, line.replace(" ", "", 1))

    def names(self, sort, frame):
        """Of the frame's two brackets, filled in, just names make a line."""
        self.right(sort, *(frame.format(name) for name in ("a", "z9", "abcdefghij12", "num", "kind", "gives", "r0", "give")))
        self.wrong(sort, *(frame.format(name) for name in (
            "A", "Kind", "aB", "a_b", "a-b", "9", "9a", "-", "abcdefghijklm", "a" * 500, "", "a.", "~", "a b", "@", "`", "{",
        )))

    def unit_names(self, sort, frame):
        """Likewise just unit names."""
        self.right(sort, *(frame.format(name) for name in ("A", "Z9", "Abcdefghij12", "Num", "Kind")))
        self.wrong(sort, *(frame.format(name) for name in (
            "a", "AB", "kind", "A_", "A-b", "9", "9A", "-", "Abcdefghijklm", "A" + "a" * 500, "", "A.", "@", "[", "A B",
        )))

    def numbers(self, sort, frame, least, most):
        """Likewise just the writings of numbers from the least one to the most."""
        within = {least, least + 1, -1, 0, 1, 5, 7, 8, 10, 12, 40, MILL // 10, most - 1, most}
        self.right(sort, *(frame.format(n) for n in within if least <= n <= most))
        self.wrong(sort, *(frame.format(n) for n in within if not least <= n <= most))
        beyond = (least - 1, most + 1, least - MILL, most + MILL, 9999999999999, -9999999999999)
        self.wrong(sort, *(frame.format(n) for n in beyond))
        self.wrong(sort, *(frame.format(word) for word in NO_NUMBERS))
        self.wrong(sort, frame.format(""))


class HeadLines(unittest.TestCase):

    def right(self, line, *told):
        self.assertEqual(read_unit(line), kind(*told), line)

    def wrong(self, *lines):
        for line in lines:
            for behind in ("", "\nway way gives num\ngive", "\nway way gives num", "\n"):
                self.assertEqual(bad_line(line + behind), 0, line)

    def test_kinds(self):
        self.right("kind K", "K")
        self.right("kind Abcdefghij12", "Abcdefghij12")
        self.right("kind K above A", "K", "A")
        self.right("kind K faces F", "K", "", ("F",))
        self.right("kind K above A faces F", "K", "A", ("F",))
        self.right("kind K faces H G F", "K", "", ("H", "G", "F"))
        self.right("kind K above K faces K", "K", "K", ("K",))

    def test_wrong_kinds(self):
        self.wrong(
            "kind", "kind ", " kind K", "kind K ", "kind  K", "kind k", "kind K2K", "kind Abcdefghijklm", "kind 1", "kind num",
            "Kind K", "KIND K", "kinds K", "kind K L", "kind K k", "kind K num", "kind K-", "kind K_", "kind K,", "kindK",
        )

    def test_wrong_aboves(self):
        self.wrong(
            "kind K above", "kind K above ", "kind K above a", "kind K above num", "kind K above A B",
            "kind K above A above B", "kind K  above A", "kind K above  A", "kind K above A ", "kind K Above A",
            "kind above A", "kind K above faces", "kind K above faces F", "kind K above Abcdefghijklm",
            "kind K above A num", "kind K under A", "kind K above 0", "kind K above A above",
        )

    def test_wrong_faces(self):
        self.wrong(
            "kind K faces", "kind K faces ", "kind K faces f", "kind K faces num", "kind K  faces F", "kind K faces  F",
            "kind K faces F ", "kind K faces F  G", "kind K Faces F", "kind K face F", "kind faces F", "kind K faces F f",
            "kind K faces F above A", "kind K faces above A", "kind K above A faces", "kind K faces F faces G",
            "kind K faces F G num", "kind K above A F", "kind K faces Abcdefghijklm", "kind K F G",
        )

    def test_a_face_twice_and_one_more(self):
        self.wrong("kind K faces F F", "kind K faces F G F", "kind K above A faces F G G")
        self.wrong("kind K faces F G H I", "kind K above A faces F G H I", "kind K faces F G H F", "kind K faces A B C D E F")

    def test_faces(self):
        for name in ("F", "Face", "Abcdefghij12", "Kind"):
            self.assertEqual(read_unit(f"face {name}\nway way gives num"), face(name))

    def test_wrong_first_lines_of_faces(self):
        self.wrong(
            "face", "face ", "face f", "face num", "face F G", "face F ", " face F", "face  F", "Face F", "faces F",
            "face F above A", "face F faces G", "face Abcdefghijklm", "face F way", "face 1", "faceF", "face F f",
        )

    def test_first_lines_of_other_forms(self):
        self.wrong("", " ", "K", "way way gives num", "field total num", "give", "at here 0", "mark here", "catch a b c")
        self.wrong("\nkind K", "unit K", "num 1", "k", "0", "kind", "-")


class Lines(Case):

    def test_the_unit_of_the_lines(self):
        self.assertEqual(bad_line("\n".join(LINES)), 2)
        self.assertEqual(read_unit("\n".join(LINES[:2] + LINES[3:])), kind(
            "Kind", "", (), (("total", "num"),),
            (way("way", (), "num", (("ask",), ("jump", 0)), ((0, 1),), ((0, 1, 0),)),),
        ))

    def test_fields(self):
        self.blanks("field", "field total num")
        self.blanks("field", "field a B")
        self.names("field", "field {} num")
        self.names("field", "field {} Kind")
        self.unit_names("field", "field total {}")
        self.wrong("field", "field", "field total", "field total num num", "field total num Kind", "field total kind")
        self.wrong("field", "field num", "field Kind", "fields total num", "Field total num", "field total 0")

    def test_ways(self):
        self.blanks("way", "way way gives num")
        self.blanks("way", "way way num A gives B")
        self.names("way", "way {} gives num")
        self.names("way", "way {} num A gives B")
        self.unit_names("way", "way way gives {}")
        for line in ("way way {} gives num", "way way num {} num gives Kind", "way way A B C D E {} gives num"):
            self.right("way", *(line.format(word) for word in ("A", "Z9", "num", "Gives")))
            self.wrong("way", *(line.format(word) for word in ("a", "AB", "gives", "0", "", "Abcdefghijklm", "num,", "-")))
        self.wrong(
            "way", "way", "way way", "way gives", "way gives num", "way way num", "way way gives", "way way num num",
            "way way gives num num", "way way gives gives num", "way way gives A gives num", "way way gives num gives",
            "way way Gives num", "way way give num", "way way gives way", "ways way gives num", "way way gives kind",
        )
        self.right("way", "way gives gives num", "way num num gives num", "way way num num num num num num gives num")

    def test_one_take_more(self):
        self.right("way", "way way A A A A A A gives num", "way way A B num C D num gives E")
        self.wrong("way", "way way A A A A A A A gives num", "way way" + " num" * 7 + " gives num", "way way" + " A" * 99 + " gives A")

    def test_catches(self):
        self.blanks("catch", "catch here there here")
        for frame in ("catch {} there here", "catch here {} here", "catch here there {}"):
            self.names("catch", frame)
        self.wrong(
            "catch", "catch", "catch here", "catch here there", "catch here there here there", "catch 0 1 0", "catch 0 there here",
            "catch here there 0", "catches here there here", "catch here there here 1",
        )

    def test_entries(self):
        self.blanks("at", "at here 1")
        self.names("at", "at {} 0")
        self.numbers("at", "at here {}", 0, 8)
        self.wrong("at", "at", "at here", "at 1", "at here 1 1", "at here here", "at 1 here", "at here 1 here", "At here 1")
        self.right("at", *(f"at here {height}" for height in range(9)))

    def test_marks(self):
        self.blanks("mark", "mark there")
        self.names("mark", "mark {}")
        self.wrong("mark", "mark", "mark 1", "mark there 1", "mark there there2", "mark there 0", "marks there", "Mark there")

    def test_rows_without_parts(self):
        for word in PLAIN:
            self.blanks("row", word)
            self.wrong("row", *(f"{word} {more}" for more in ("a", "A", "0", "1", "num", "here", word)))
            self.wrong("row", word[:-1], word + "s", word[1:], word.capitalize())

    def test_rows_of_numbers(self):
        self.blanks("row", "num 12")
        self.numbers("row", "num {}", -MILL, MILL - 1)
        self.right("row", "num -1000000000000", "num 999999999999", "num -1", "num 100000000000", "num -10")
        self.wrong("row", "num", "num a", "num A", "num 1 1", "num 1 a", "num num", "1", "num 1000000000000", "num -1000000000001")

    def test_rows_of_boxes(self):
        for word in ("get", "put"):
            self.blanks("row", f"{word} 3")
            self.numbers("row", word + " {}", 0, 7)
            self.right("row", *(f"{word} {box}" for box in range(8)))
            self.wrong("row", word, f"{word} a", f"{word} here", f"{word} A", f"{word} 1 1", f"{word} 1 A", f"{word} -1")

    def test_rows_of_units(self):
        for word in ("fits", "new"):
            self.blanks("row", f"{word} Kind")
            self.unit_names("row", word + " {}")
            self.wrong("row", word, f"{word} num", f"{word} 0", f"{word} A a", f"{word} A B", f"{word} a A", f"{word} A 0")

    def test_rows_of_units_and_names(self):
        for word in ("read", "write", "call", "hail"):
            self.blanks("row", f"{word} Kind total")
            self.unit_names("row", word + " {} total")
            self.names("row", word + " Kind {}")
            self.wrong(
                "row", word, f"{word} A", f"{word} a", f"{word} a A", f"{word} A B", f"{word} a b", f"{word} A a a",
                f"{word} A a B", f"{word} A a 0", f"{word} A 0", f"{word} num a", f"{word} 0 a",
            )

    def test_rows_that_lead(self):
        for word in ("jump", "nought"):
            self.blanks("jump", f"{word} here")
            self.names("jump", word + " {}")
            self.wrong("jump", word, f"{word} 0", f"{word} 1", f"{word} Here", f"{word} here here", f"{word} here 0", f"{word} A")

    def test_words_that_are_none(self):
        for word in (
            "no", "nop", "div", "mod", "ret", "label", "entry", "catches", "gives", "takes", "above", "faces", "r0", "x",
            "0", "1", "-1", "A", "Kind", "num1", "ask1", ":", "#", "//", "~", "here:", "ask;", "ask,say", ".",
        ):
            for parts in ("", " here", " 0", " A", " A a", " here 0", " a b c"):
                for sort in ("row", "jump", "mark", "at", "catch"):
                    self.wrong(sort, word + parts)

    def test_each_word_is_tried_here(self):
        told = PLAIN + ("num", "get", "put", "fits", "new", "read", "write", "call", "hail", "jump", "nought")
        self.assertEqual(told, WORDS)

    def test_what_the_rows_tell(self):
        lines = [
            *PLAIN, "num 0", "num -1000000000000", "num 999999999999", "get 0", "get 7", "put 0", "put 7", "fits A", "new B2",
            "read A a", "write B b", "call C c", "hail D d", "jump x", "nought x",
        ]
        rows = [
            *((word,) for word in PLAIN), ("num", 0), ("num", -1000000000000), ("num", 999999999999), ("get", 0), ("get", 7),
            ("put", 0), ("put", 7), ("fits", "A"), ("new", "B2"), ("read", "A", "a"), ("write", "B", "b"), ("call", "C", "c"),
            ("hail", "D", "d"), ("jump", 0), ("nought", 0),
        ]
        text = "kind Kind\nway way gives num\nat x 0\n" + "\n".join(lines)
        self.assertEqual(read_unit(text), kind_of_way(rows=tuple(rows), entries=((0, 0),)))

    def test_lines_without_signs(self):
        for at in range(1, len(LINES) + 1):
            lines = LINES[:at] + ("",) + LINES[at:]
            self.assertEqual(bad_line("\n".join(lines)), at)
        self.assertEqual(bad_line("kind Kind\n"), 1)
        self.assertEqual(bad_line("kind Kind\n\n"), 1)
        self.assertEqual(bad_line("face Face\nway way gives num\n"), 2)
        self.assertEqual(bad_line("kind Kind\nway way gives num\ngive\n"), 3)
        self.assertEqual(bad_line(""), 0)
        self.assertEqual(bad_line("\n"), 0)
        self.assertEqual(bad_line(" "), 0)


if __name__ == "__main__":
    unittest.main()
