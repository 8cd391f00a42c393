"""[14]: what makes no house, and with which unit and word it is refused."""

import random
import unittest

from house_rules import bad_house_by_rules
from refusals import bad_house
from samples import face, kind, way
from strangemill.house import House

NONE = kind("Zz")


def orders(units):
    """The units in a few other orders."""
    yield list(units)
    yield list(units)[::-1]
    chance = random.Random(len(units))
    for _ in range(4):
        yield chance.sample(list(units), len(units))


def chain(many, name="K"):
    """A kind with so many kinds above it, one over the other."""
    return [kind(f"{name}{at:02}", f"{name}{at + 1:02}" if at < many else "") for at in range(many + 1)]


class Case(unittest.TestCase):

    def right(self, *units):
        for told in orders(units):
            self.assertIsNone(bad_house(told), told)
            self.assertEqual(len(House(told)), len(units))

    def wrong(self, name, word, *units):
        for told in orders(units):
            self.assertEqual(bad_house(told), (name, word), told)


class Whole(Case):

    def test_houses(self):
        self.right()
        self.right(kind())
        self.right(face())
        self.right(kind("A", "B"), kind("B"), face("F"), kind("C", "", ("F",), ways=(way(),)))

    def test_many(self):
        units = [kind(f"K{at}") for at in range(30)]
        self.right(*units[:19])
        self.right(*units[:20])
        for many in (21, 22, 30):
            self.wrong("", "many", *units[:many])
        self.wrong("", "many", *[kind()] * 21)
        self.wrong("", "many", *[kind("A", "Nobody")] * 11, *[kind("B")] * 11)
        self.wrong("", "many", *[kind(f"K{at}", "Nobody") for at in range(21)])

    def test_twice(self):
        self.wrong("Kind", "twice", kind(), kind())
        self.wrong("A", "twice", kind("A"), face("A"))
        self.wrong("B", "twice", kind("B"), kind("A"), kind("B", "A"), kind("C"))
        self.wrong("B", "twice", kind("C"), kind("C"), kind("B"), face("B"), kind("A"))
        self.wrong("K10", "twice", *(kind(name) for name in ("K9", "K9", "K10", "K10", "K2")))
        self.wrong("Ab", "twice", kind("B"), kind("B"), kind("Ab"), kind("Ab"), kind("A"))
        self.wrong("K", "twice", *[kind("K")] * 20)

    def test_twice_goes_ahead_of_all_others(self):
        self.wrong("Z", "twice", kind("A", "Nobody"), kind("Z"), kind("Z"))
        self.wrong("Z", "twice", kind("A", "A"), kind("Z", "Z"), kind("Z", "Z"))


class Above(Case):

    def test_not_there(self):
        self.wrong("K", "above", kind("K", "Nobody"))
        self.right(kind("K", "L"), kind("L"))

    def test_no_kind(self):
        self.wrong("K", "above", kind("K", "F"), face("F"))

    def test_a_kind_further_up(self):
        self.wrong("L", "above", kind("K", "L"), kind("L", "Nobody"))
        self.wrong("A", "above", kind("B", "A"), kind("A", "Nobody"))
        self.wrong("L", "above", kind("K", "L"), kind("L", "F"), face("F"))


class Faces(Case):

    def test_not_there(self):
        self.wrong("K", "faces", kind("K", "", ("F",)))
        self.wrong("K", "faces", kind("K", "", ("F", "G"), ways=(way(),)), face("F"))
        self.wrong("K", "faces", kind("K", "", ("G", "F"), ways=(way(),)), face("F"))
        self.wrong("K", "faces", kind("K", "", ("F", "G", "H"), ways=(way(),)), face("F"), face("G"))

    def test_no_face(self):
        self.wrong("K", "faces", kind("K", "", ("L",)), kind("L"))
        self.wrong("K", "faces", kind("K", "", ("K",)))
        self.wrong("K", "faces", kind("K", "L", ("F", "L"), ways=(way(),)), kind("L"), face("F"))

    def test_those_that_are(self):
        faces = [face("F"), face("G"), face("H")]
        self.right(kind("K", "", ("F", "G", "H"), ways=(way(),)), *faces)
        self.right(kind("K", "", ("H", "F"), ways=(way(),)), *faces)


class Rings(Case):

    def test_of_one_kind(self):
        self.wrong("K", "ring", kind("K", "K"))
        self.wrong("K", "ring", kind("K", "K"), kind("A"), face("F"), NONE)

    def test_of_several(self):
        self.wrong("A", "ring", kind("A", "B"), kind("B", "A"))
        self.wrong("A", "ring", kind("C", "A"), kind("A", "B"), kind("B", "C"))
        self.wrong("A", "ring", kind("C", "B"), kind("A", "C"), kind("B", "A"), kind("Aa"), NONE)
        for many in (7, 8, 9, 19):
            ring = [kind(f"K{at:02}", f"K{(at + 1) % (many + 1):02}") for at in range(many + 1)]
            self.wrong("K00", "ring", *ring)

    def test_kinds_that_lead_into_one(self):
        self.wrong("A", "ring", kind("A", "K"), kind("K", "K"))
        self.wrong("A", "ring", kind("A", "B"), kind("B", "K"), kind("K", "L"), kind("L", "K"))
        self.wrong("K", "ring", kind("Z", "K"), kind("K", "L"), kind("L", "K"))
        self.wrong("B", "ring", kind("B", "K"), kind("A"), kind("K", "L"), kind("L", "L"))

    def test_a_way_up_that_ends_is_none(self):
        self.right(*chain(7))
        self.wrong("L", "above", kind("K", "L"), kind("L", "Nobody"))

    def test_ring_goes_ahead_of_deep(self):
        ring = [kind(f"K{at}", f"K{(at + 1) % 9}") for at in range(9)]
        self.wrong("K0", "ring", *ring)
        self.wrong("A", "ring", kind("A", "K0"), *ring)


class Deep(Case):

    def test_numbers_of_kinds_above(self):
        for many in range(8):
            self.right(*chain(many))
        for many in range(8, 20):
            self.wrong("K00", "deep", *chain(many))

    def test_the_first_by_name_and_not_the_lowest(self):
        units = [kind(f"K{9 - at}", f"K{8 - at}" if at < 9 else "") for at in range(10)]
        self.wrong("K8", "deep", *units)
        self.right(*units[2:])
        self.wrong("K8", "deep", *units[1:])

    def test_as_far_as_kinds_are_there(self):
        self.wrong("K00", "deep", *chain(8)[:-1], kind("K08", "Nobody"))
        self.wrong("K00", "deep", *chain(8)[:-1], kind("K08", "Zf"), face("Zf"))
        self.wrong("K07", "above", *chain(7)[:-1], kind("K07", "Nobody"))
        self.wrong("K07", "above", *chain(8)[:-1])

    def test_several_families(self):
        self.right(*chain(7, "A"), *chain(7, "B"), *chain(3, "C"))
        self.wrong("B00", "deep", *chain(7, "A"), *chain(8, "B"))
        self.right(*chain(7), kind("L", "K01"), kind("M", "K01"))
        self.wrong("A", "deep", *chain(7), kind("A", "K00"))


class Types(Case):

    def test_of_fields(self):
        self.wrong("K", "types", kind("K", fields=(("a", "Nobody"),)))
        self.wrong("K", "types", kind("K", fields=(("a", "num"), ("b", "K"), ("c", "Nobody"))))
        self.right(kind("K", fields=(("a", "num"), ("b", "K"), ("c", "F"))), face("F"))

    def test_of_ways(self):
        self.wrong("K", "types", kind("K", ways=(way(gives="Nobody"),)))
        self.wrong("K", "types", kind("K", ways=(way(takes=("Nobody",)),)))
        self.wrong("K", "types", kind("K", ways=(way("a"), way("b", ("num", "K", "Nobody")))))
        self.wrong("K", "types", kind("K", ways=(way("a"), way("b", ("num", "K"), "Nobody"))))
        self.right(kind("K", ways=(way("a"), way("b", ("num", "K", "F"), "F"))), face("F"))

    def test_of_faces(self):
        self.wrong("F", "types", face("F", (("a", (), "Nobody"),)))
        self.wrong("F", "types", face("F", (("a", (), "num"), ("b", ("num", "Nobody"), "num"))))
        self.right(face("F", (("a", ("F", "K"), "K"), ("b", (), "F"))), kind("K"))

    def test_what_rows_name_is_no_matter(self):
        rows = (("new", "Nobody"), ("fits", "Nobody"), ("read", "Nobody", "a"), ("call", "Nobody", "a"), ("hail", "K", "a"))
        self.right(kind("K", ways=(way(rows=rows),)))


class Fields(Case):

    def test_a_name_of_a_kind_above(self):
        self.wrong("K", "fields", kind("K", "L", fields=(("a", "num"),)), kind("L", fields=(("a", "num"),)))
        self.wrong("K", "fields", kind("K", "L", fields=(("b", "num"), ("a", "num"))), kind("L", "M"),
                   kind("M", fields=(("c", "num"), ("a", "K"))))
        self.wrong("Z", "fields", kind("Z", "A", fields=(("a", "num"),)), kind("A", fields=(("a", "num"),)))

    def test_a_name_elsewhere(self):
        self.right(
            kind("K", "M", fields=(("a", "num"),)), kind("L", "M", fields=(("a", "num"),)), kind("M", fields=(("b", "num"),)),
        )
        self.right(kind("K", "L", fields=(("way", "num"),)), kind("L", ways=(way(),)))
        self.right(kind("K", "L", fields=(("a", "num"),)), kind("L", fields=(("a1", "num"),)))


class Ways(Case):

    def test_other_takes_or_another_gives(self):
        above = kind("L", ways=(way("a"), way("b", ("num", "L"), "L")))
        for own in (
            way("a", ("num",)), way("a", (), "L"), way("b"), way("b", ("num",), "L"), way("b", ("L", "num"), "L"),
            way("b", ("num", "L"), "num"), way("b", ("num", "L", "num"), "L"), way("b", ("num", "K"), "L"),
            way("b", ("num", "L"), "K"),
        ):
            self.wrong("K", "ways", kind("K", "L", ways=(own,)), above)
            self.wrong("K", "ways", kind("K", "L", ways=(way("c"), own)), above)
            self.wrong("K", "ways", kind("K", "J", ways=(own,)), kind("J", "L", ways=(way("c"),)), above)
            self.wrong("Z", "ways", kind("Z", "L", ways=(own,)), above, kind("K"))

    def test_the_same_takes_and_gives(self):
        above = kind("L", ways=(way("a"), way("b", ("num", "L"), "L")))
        rows = (("get", 0), ("give",))
        self.right(kind("K", "L", ways=(way("b", ("num", "L"), "L", rows), way("a", rows=rows), way("c"))), above)
        self.right(kind("K", "J", ways=(way("a"),)), kind("J", "L", ways=(way("a"), way("c", ("K",)))), above)
        self.right(kind("K", "M", ways=(way("a"),)), kind("J", "M", ways=(way("a", ("num",)),)), kind("M"))

    def test_the_first_by_name(self):
        self.wrong(
            "B", "ways", kind("A", "B"), kind("B", "C", ways=(way("a", ("num",)),)), kind("C", ways=(way("a"),)),
        )
        self.wrong(
            "A", "ways", kind("A", "B", ways=(way("a"),)), kind("B", "C", ways=(way("a", ("num",)),)), kind("C", ways=(way("a"),)),
        )


class Lacks(Case):

    FACE = face("F", (("a", ("num",), "num"), ("b", (), "F")))
    A = way("a", ("num",))
    B = way("b", (), "F")

    def test_a_signature_that_no_way_has(self):
        for ways in (
            (), (self.A,), (self.B,), (self.A, way("b")), (self.A, way("b", ("num",), "F")), (way("a"), self.B),
            (way("a", ("F",)), self.B), (way("a", ("num",), "F"), self.B), (self.A, way("b2", (), "F")),
        ):
            self.wrong("K", "lacks", kind("K", "", ("F",), ways=ways), self.FACE)
            self.wrong("K", "lacks", kind("K", "", ("G", "F"), ways=ways + (way("way"),)), self.FACE, face("G"))
            self.wrong("K", "lacks", kind("K", "L", ("F",)), kind("L", ways=ways), self.FACE)
        self.right(kind("K", "", ("F",), ways=(self.A, self.B)), self.FACE)
        self.right(kind("K", "", ("F",), ways=(self.B, way("c"), self.A)), self.FACE)

    def test_ways_of_kinds_above(self):
        self.right(kind("K", "L", ("F",)), kind("L", ways=(self.A, self.B)), self.FACE)
        self.right(kind("K", "L", ("F",), ways=(self.A,)), kind("L", "M"), kind("M", ways=(self.B,)), self.FACE)
        self.right(kind("K", "L", ("F",), ways=(self.A,)), kind("L", ways=(self.A, self.B)), self.FACE)

    def test_ways_further_down_are_of_no_use(self):
        self.wrong("L", "lacks", kind("K", "L", ways=(self.A, self.B)), kind("L", "", ("F",)), self.FACE)
        self.wrong("L", "lacks", kind("K", "L", ways=(self.B,)), kind("L", "", ("F",), ways=(self.A,)), self.FACE)

    def test_faces_of_kinds_above(self):
        self.wrong("A", "lacks", kind("A", "B"), kind("B", "", ("F",)), self.FACE)
        self.wrong("A", "lacks", kind("A", "B", ways=(self.A,)), kind("B", "C"), kind("C", "", ("F",)), self.FACE)
        self.wrong("B", "lacks", kind("A", "B", ways=(self.A, self.B)), kind("B", "", ("F",)), self.FACE)
        self.right(kind("A", "B"), kind("B", "C", ("F",)), kind("C", "", ("F",), ways=(self.A, self.B)), self.FACE)


class Several(Case):

    def test_the_first_unit_by_name(self):
        self.wrong("A", "types", kind("A", fields=(("a", "Nobody"),)), kind("B", "Nobody"), kind("C", "C"))
        self.wrong("B", "above", kind("A"), kind("B", "Nobody"), kind("C", "Nobody"), kind("D", "", ("Nobody",)))
        self.wrong("A1", "ring", kind("A1", "A1"), kind("B", "Nobody"), kind("Aa", "Nobody"), kind("A"))
        self.wrong("K10", "above", kind("K9", "Nobody"), kind("K10", "Nobody"), kind("K1"))
        self.wrong("F", "types", face("F", (("a", (), "Nobody"),)), kind("K", "Nobody", ("Nobody",)))

    def test_the_first_word_of_a_unit(self):
        wrong = (("a", "Nobody"),)
        self.wrong("K", "above", kind("K", "Nobody", ("Nobody",), wrong))
        self.wrong("K", "above", kind("K", "F", ("K",), wrong), face("F"))
        self.wrong("K", "faces", kind("K", "K", ("Nobody",), wrong))
        self.wrong("K", "ring", kind("K", "K", (), wrong))
        self.wrong("K00", "faces", kind("K00", "K01", ("Nobody",), wrong), *chain(8)[1:])
        self.wrong("K00", "deep", kind("K00", "K01", (), wrong), *chain(8)[1:])
        self.wrong("K", "types", kind("K", "L", ("F",), wrong, (way("b", ("num",)),)),
                   kind("L", fields=(("a", "num"),), ways=(way("b"),)), face("F"))

    def test_the_first_of_the_later_words_of_a_unit(self):
        above = kind("L", fields=(("a", "num"),), ways=(way("b"),))
        fields = (("a", "num"),)
        ways = (way("b", ("num",)),)
        self.wrong("K", "fields", kind("K", "L", ("F",), fields, ways), above, face("F"))
        self.wrong("K", "ways", kind("K", "L", ("F",), (), ways), above, face("F"))
        self.wrong("K", "lacks", kind("K", "L", ("F",)), above, face("F"))
        self.wrong("A", "lacks", kind("A", "L", ("F",)), above, face("F"), kind("B", "L", (), fields, ways))
        self.wrong("A", "ways", kind("A", "L", (), (), ways), above, face("F"), kind("B", "L", (), fields))

    def test_the_earlier_words_of_any_go_ahead_of_the_later_ones(self):
        bad = kind("A", "B", ("F",), (("a", "num"),), (way("b", ("num",)),))
        units = [bad, kind("B", fields=(("a", "num"),), ways=(way("b"),)), face("F")]
        self.wrong("A", "fields", *units)
        self.wrong("Z", "above", *units, kind("Z", "Nobody"))
        self.wrong("Z", "faces", *units, kind("Z", "", ("A",)))
        self.wrong("Z", "ring", *units, kind("Z", "Z"))
        self.wrong("K00", "deep", *units, *chain(8))
        self.wrong("Z", "types", *units, kind("Z", fields=(("a", "Nobody"),)))
        self.wrong("Zf", "types", *units, face("Zf", (("a", (), "Nobody"),)))


class ByChance(Case):

    NAMES = ("A", "B", "C", "D", "E")

    def unit(self, chance, name):
        sort = lambda: chance.choice(("num", "num", "num", "A", "B", "C") + ("X",) * (chance.random() < 0.1))
        signature = lambda one: (one, tuple(sort() for _ in range(chance.choice((0, 0, 1)))), chance.choice(("num", "num", "A")))
        if name in ("D", "E") or chance.random() < 0.05:
            return face(name, tuple(signature(one) for one in chance.sample("ab", chance.choice((1, 1, 2)))))
        return kind(
            name, chance.choice(("", "", "A", "B", "C") + ("D", "X") * (chance.random() < 0.1)),
            tuple(chance.sample(("D", "E"), chance.choice((0, 0, 1, 2)))),
            tuple((one, sort()) for one in chance.sample("abc", chance.choice((0, 0, 1)))),
            tuple(way(*signature(one)) for one in chance.sample("ab", chance.choice((0, 1, 2, 2)))),
        )

    def test_units_by_chance_are_refused_as_the_rules_tell(self):
        chance = random.Random(11)
        told = {}
        for _ in range(6000):
            units = [self.unit(chance, name) for name in self.NAMES if chance.random() < 0.95]
            if chance.random() < 0.03:
                units.append(self.unit(chance, chance.choice(self.NAMES)))
            chance.shuffle(units)
            expected = bad_house_by_rules(units)
            self.assertEqual(bad_house(units), expected, units)
            told[expected] = told.get(expected, 0) + 1
        self.assertEqual({word for _, word in filter(None, told)}, {
            "twice", "above", "faces", "ring", "types", "fields", "ways", "lacks"})
        self.assertGreater(told[None], 100)


if __name__ == "__main__":
    unittest.main()
