"""[11]: how units are written, that they are read from it again, and many texts by chance."""

import random
import unittest

from chance import units
from refusals import bad_line
from samples import GIVE, RICH_FACE, RICH_KIND, face, kind, kind_of_way, way
from strangemill.texts import read_unit, written
from strangemill.units import is_unit
from text_rules import bad_line_by_rules

ASKS = (("ask",),) * 5


def ways_lines(**parts):
    """The lines that are written of a way, its first one out."""
    head, first, *lines = written(kind_of_way(**parts)).split("\n")
    assert (head, first) == ("kind Kind", "way way gives num"), (head, first)
    return lines


class Written(unittest.TestCase):

    def test_first_lines(self):
        self.assertEqual(written(kind("K")), "kind K")
        self.assertEqual(written(kind("K", "A")), "kind K above A")
        self.assertEqual(written(kind("K", "", ("F",))), "kind K faces F")
        self.assertEqual(written(kind("K", "A", ("G", "F", "H"))), "kind K above A faces G F H")

    def test_fields_in_their_order(self):
        self.assertEqual(written(kind("K", fields=(("b", "num"), ("a", "K")))), "kind K\nfield b num\nfield a K")

    def test_faces(self):
        self.assertEqual(written(face("F")), "face F\nway way gives num")
        self.assertEqual(
            written(RICH_FACE), "face Payer\nway pay num Person gives Account\nway rest gives num",
        )

    def test_a_rich_kind(self):
        self.assertEqual(written(RICH_KIND).split("\n"), [
            "kind Account above Thing faces Payer Owner", "field total num", "field owner Person",
            "way pay num Person gives Account", "catch r0 r4 r11", "catch r5 r14 r11",
            "at r0 0", "num -5", "get 0", "put 7", "fits Payer", "at r4 8", "new Person", "mark r5", "read Account total",
            "write Account total", "call Person name", "hail Payer pay", "jump r11", "nought r0", "at r11 1", "drop", "ask",
            "give", "mark r14",
            "way rest gives num", "num 1", "give",
        ])

    def test_without_entries(self):
        self.assertEqual(ways_lines(rows=GIVE), ["num 1", "give"])
        self.assertEqual(ways_lines(rows=(("num", -1000000000000), ("give",))), ["num -1000000000000", "give"])

    def test_entries(self):
        self.assertEqual(
            ways_lines(rows=ASKS, entries=((0, 8), (3, 0), (4, 1))),
            ["at r0 8", "ask", "ask", "ask", "at r3 0", "ask", "at r4 1", "ask"],
        )

    def test_catches_at_entries(self):
        self.assertEqual(
            ways_lines(rows=ASKS, entries=((0, 1), (3, 0)), catches=((0, 3, 0),)),
            ["catch r0 r3 r0", "at r0 1", "ask", "ask", "ask", "at r3 0", "ask", "ask"],
        )

    def test_catches_at_other_rows(self):
        self.assertEqual(
            ways_lines(rows=ASKS, entries=((2, 1),), catches=((1, 4, 2),)),
            ["catch r1 r4 r2", "ask", "mark r1", "ask", "at r2 1", "ask", "ask", "mark r4", "ask"],
        )
        self.assertEqual(
            ways_lines(rows=ASKS, entries=((2, 1),), catches=((0, 2, 2),)),
            ["catch r0 r2 r2", "mark r0", "ask", "ask", "at r2 1", "ask", "ask", "ask"],
        )

    def test_catches_to_the_end(self):
        self.assertEqual(
            ways_lines(rows=ASKS, entries=((2, 1),), catches=((4, 5, 2),)),
            ["catch r4 r5 r2", "ask", "ask", "at r2 1", "ask", "ask", "mark r4", "ask", "mark r5"],
        )

    def test_catches_with_one_row_twice(self):
        self.assertEqual(
            ways_lines(rows=ASKS, entries=((2, 1),), catches=((1, 3, 2), (3, 5, 2), (1, 5, 2), (1, 3, 2))),
            ["catch r1 r3 r2", "catch r3 r5 r2", "catch r1 r5 r2", "catch r1 r3 r2",
             "ask", "mark r1", "ask", "at r2 1", "ask", "mark r3", "ask", "ask", "mark r5"],
        )

    def test_rows(self):
        rows = (
            ("num", 0), ("get", 0), ("put", 7), ("fits", "A"), ("new", "B"), ("read", "C", "c"), ("write", "D", "d"),
            ("call", "E", "e"), ("hail", "F", "f"), ("jump", 10), ("nought", 0), ("say",),
        )
        self.assertEqual(ways_lines(rows=rows, entries=((0, 0), (10, 3))), [
            "at r0 0", "num 0", "get 0", "put 7", "fits A", "new B", "read C c", "write D d", "call E e", "hail F f",
            "jump r10", "at r10 3", "nought r0", "say",
        ])

    def test_two_texts_of_one_unit_are_written_alike(self):
        one = "kind Kind\nway way gives num\ncatch a b c\nmark z\nmark a\nat c 1\njump a\nmark y\nask\nmark b\nnum 5\nat x 0\ngive"
        other = "kind Kind\nway way gives num\ncatch l1 l3 l1\nat l1 1\njump l1\nask\nmark l3\nnum 5\nmark l5\nat l4 0\ngive\nmark l6"
        self.assertEqual(read_unit(one), read_unit(other))
        self.assertEqual(written(read_unit(one)), written(read_unit(other)))
        self.assertEqual(
            written(read_unit(one)),
            "kind Kind\nway way gives num\ncatch r0 r2 r0\nat r0 1\njump r0\nask\nmark r2\nnum 5\nat r3 0\ngive",
        )

    def test_what_is_written_is_read_again(self):
        for unit in [RICH_KIND, RICH_FACE, kind(), face()] + units(400):
            text = written(unit)
            self.assertEqual(read_unit(text), unit)
            self.assertEqual(written(read_unit(text)), text)
            self.assertEqual(written(unit), text)

    def test_the_greatest_unit(self):
        rows = (("call", "Abcdefghijkl", "abcdefghijkl"),) * 39 + (("jump", 39),)
        entries = tuple((at, 1) for at in range(40))
        ways = tuple(way(f"abcdefghijk{at}", rows=rows, entries=entries) for at in range(8))
        self.assertTrue(is_unit(kind(ways=ways)))
        self.assertEqual(read_unit(written(kind(ways=ways))), kind(ways=ways))


class ByChance(unittest.TestCase):

    WORDS = ("", "a", "A", "r0", "r1", "num", "0", "9", "-0", "kind", "face", "field", "way", "gives", "catch", "at", "mark",
             "give", "jump", "nought", "K1", "num 1", "at x 1", "mark r0", "catch r0 r1 r0", "way z gives num", "field z num")

    def changed(self, chance, lines):
        at = chance.randrange(len(lines))
        words = lines[at].split(" ")
        told = chance.randrange(8)
        if told == 0:
            return lines[:at] + lines[at + 1:] or ["kind A"]
        if told == 1:
            return lines[:at] + [lines[at]] + lines[at:]
        if told == 2:
            other = chance.randrange(len(lines))
            return lines[:at] + [lines[other]] + lines[at:]
        if told == 3:
            return lines[:at] + [chance.choice(self.WORDS)] + lines[at:]
        if told == 4:
            words.insert(chance.randrange(len(words) + 1), chance.choice(self.WORDS))
        elif told == 5:
            words.pop(chance.randrange(len(words)))
        elif told == 6:
            words[chance.randrange(len(words))] = chance.choice(self.WORDS)
        else:
            words[-1] = chance.choice([line.split(" ")[-1] for line in lines])
        return lines[:at] + [" ".join(words)] + lines[at + 1:]

    def line(self, chance):
        """A line of a way with one of three labels."""
        one = chance.choice("abc")
        return chance.choice((
            "ask", "give", "num 1", f"jump {one}", f"nought {one}", f"mark {one}", f"mark {one}", f"way {one} gives num",
            f"at {one} 0", f"at {one} 1", f"at {one} 1", f"at {one} 2",
        ))

    def test_ways_by_chance_are_refused_as_the_rules_tell(self):
        chance = random.Random(9)
        told = set()
        for _ in range(6000):
            lines = ["kind Kind", "way a gives num"]
            lines += [" ".join(["catch", *chance.choices("abc", k=3)]) for _ in range(chance.choice((0, 0, 1, 2)))]
            text = "\n".join(lines + [self.line(chance) for _ in range(chance.randrange(9))])
            line = bad_line_by_rules(text)
            self.assertEqual(bad_line(text), line, text)
            told.add(line)
        self.assertLessEqual({None, *range(1, 10)}, told)

    def test_texts_by_chance_are_refused_as_the_rules_tell(self):
        chance = random.Random(7)
        told = set()
        for unit in units(300, 2):
            lines = written(unit).split("\n")
            for _ in range(8):
                text = "\n".join(lines)
                for _ in range(chance.randrange(4)):
                    text = "\n".join(self.changed(chance, text.split("\n")))
                line = bad_line_by_rules(text)
                self.assertEqual(bad_line(text), line, text)
                told.add(line)
                if line is None:
                    self.assertTrue(is_unit(read_unit(text)), text)
                    self.assertEqual(read_unit(written(read_unit(text))), read_unit(text))
        self.assertGreater(len(told), 50)


if __name__ == "__main__":
    unittest.main()
