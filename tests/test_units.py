"""[6]: kinds and faces."""

import unittest

from samples import (
    GIVE, RICH_FACE, RICH_KIND, at_path, deep, face, kind, paths, way, with_other,
)
from strangemill.units import is_unit

SIGNATURE = ("pay", (), "num")

# In the rich units a tuple may be empty at just these places.
EMPTY_LETS = {
    "faces": (RICH_KIND, (3,)),
    "fields": (RICH_KIND, (4,)),
    "ways": (RICH_KIND, (5,)),
    "what a way takes": (RICH_KIND, (5, 0, 1)),
    "catches": (RICH_KIND, (5, 0, 5)),
    "what the second way takes": (RICH_KIND, (5, 1, 1)),
    "the second way's entries": (RICH_KIND, (5, 1, 4)),
    "the second way's catches": (RICH_KIND, (5, 1, 5)),
    "what a signature takes": (RICH_FACE, (2, 0, 1)),
    "what the second signature takes": (RICH_FACE, (2, 1, 1)),
}


def names(many):
    return tuple(f"n{at}" for at in range(many))


def unit_names(many):
    return tuple(f"N{at}" for at in range(many))


class Case(unittest.TestCase):

    def yes(self, *units):
        for unit in units:
            self.assertIs(is_unit(unit), True, unit)

    def no(self, *units):
        for unit in units:
            self.assertIs(is_unit(unit), False, unit)


class Kinds(Case):

    def test_kinds(self):
        self.yes(kind(), RICH_KIND, kind(above="Thing"), kind(faces=("Face",)), kind(ways=(way(),)))

    def test_above(self):
        self.yes(kind(above=""), kind(above="A"), kind(above="Kind"))
        self.no(kind(above="num"), kind(above="thing"), kind(above=" "), kind(above="\n"))
        self.no(kind(above=()), kind(above=("A",)), kind(above=0), kind(above=False), kind(above=("",)))

    def test_numbers_of_faces(self):
        for many in range(4):
            self.yes(kind(faces=unit_names(many)))
        for many in (4, 5, 8, 1000):
            self.no(kind(faces=unit_names(many)))

    def test_faces_are_unlike(self):
        self.no(kind(faces=("Aa", "Aa")), kind(faces=("Aa", "Ab", "Aa")), kind(faces=("Ab", "Aa", "Aa")))
        self.yes(kind(faces=("Abcdefghijk1", "Abcdefghijk2", "Abcdefghijk")), kind(faces=("Kind",)))

    def test_numbers_of_fields(self):
        for many in range(7):
            self.yes(kind(fields=tuple((name, "num") for name in names(many))))
        for many in (7, 8, 1000):
            self.no(kind(fields=tuple((name, "num") for name in names(many))))

    def test_field_names_are_unlike(self):
        self.no(kind(fields=(("a", "num"), ("a", "num"))))
        self.no(kind(fields=(("a", "num"), ("a", "Kind"))))
        self.no(kind(fields=(("a", "num"), ("b", "num"), ("a", "Thing"))))
        self.yes(kind(fields=(("abcdefghijk1", "num"), ("abcdefghijk2", "num"), ("abcdefghijk", "num"))))

    def test_fields_are_pairs(self):
        for field in (("a",), (), ("a", "num", "num"), ("num",), ("Kind", "a"), "an", "a", ("a", ("num",)), 7):
            self.no(kind(fields=(field,)), kind(fields=(("b", "num"), field)))
        self.no(kind(fields=("a", "num")), kind(fields=("total", "Kind")))

    def test_numbers_of_ways(self):
        for many in range(9):
            self.yes(kind(ways=tuple(way(name) for name in names(many))))
        for many in (9, 10, 1000):
            self.no(kind(ways=tuple(way(name) for name in names(many))))

    def test_way_names_are_unlike(self):
        self.no(kind(ways=(way("a"), way("a"))))
        self.no(kind(ways=(way("a"), way("b"), way("a", ("num",), "Kind"))))
        self.yes(kind(ways=(way("abcdefghijk1"), way("abcdefghijk2"), way("abcdefghijk"))))

    def test_a_field_a_way_and_their_kind_may_be_named_alike(self):
        self.yes(kind("K", "K", ("K",), (("k", "K"),), (way("k"),)))

    def test_numbers_of_what_a_way_takes(self):
        for many in range(7):
            self.yes(kind(ways=(way(takes=unit_names(many)),)), kind(ways=(way(takes=("num",) * many),)))
        for many in (7, 8, 1000):
            self.no(kind(ways=(way(takes=unit_names(many)),)), kind(ways=(way(takes=("num",) * many),)))

    def test_parts_out_more_and_turned_about(self):
        right = kind("Kind", "Above", ("Face",), (("a", "num"),), (way(),))
        self.yes(right)
        for at in range(6):
            self.no(right[:at] + right[at + 1:], right[:at] + ((),) + right[at:], right[:at] + ("A",) + right[at:])
        self.no(right + ((),), right + right, right[::-1], (right,), ((right,),))
        for at in range(5):
            turned = right[:at] + (right[at + 1], right[at]) + right[at + 2:]
            if at != 1:
                self.no(turned)
        self.yes(("kind", "Above", "Kind") + right[3:])

    def test_the_first_word(self):
        for word in ("face", "Kind", "kin", "kinds", "kind ", " kind", "", "KIND", "way", "num", 1, 0, (), ("kind",)):
            self.no((word,) + kind()[1:])


class Faces(Case):

    def test_faces(self):
        self.yes(face(), RICH_FACE)

    def test_numbers_of_signatures(self):
        for many in range(1, 9):
            self.yes(face(signatures=tuple((name, (), "num") for name in names(many))))
        for many in (0, 9, 10, 1000):
            self.no(face(signatures=tuple((name, (), "num") for name in names(many))))

    def test_signature_names_are_unlike(self):
        self.no(face(signatures=(SIGNATURE, SIGNATURE)))
        self.no(face(signatures=(SIGNATURE, ("rest", (), "num"), ("pay", ("num",), "Kind"))))
        self.yes(face(signatures=(("abcdefghijk1", (), "num"), ("abcdefghijk2", (), "num"))))

    def test_numbers_of_what_a_signature_takes(self):
        for many in range(7):
            self.yes(face(signatures=(("a", unit_names(many), "num"),)), face(signatures=(("a", ("A",) * many, "A"),)))
        for many in (7, 8, 1000):
            self.no(face(signatures=(("a", unit_names(many), "num"),)), face(signatures=(("a", ("A",) * many, "A"),)))

    def test_signatures_are_triples(self):
        for other in (
            ("pay", ()), ("pay", "num"), ("pay",), (), ("pay", (), "num", ()), ("pay", "num", ()), ((), "pay", "num"),
            way("pay"), "pay", 3, ("pay", "num", "num"), ("pay", "", "num"), ("pay", (), ""), ("pay", (), ()),
        ):
            self.no(face(signatures=(other,)), face(signatures=(("rest", (), "num"), other)))
        self.no(face(signatures=SIGNATURE))

    def test_parts_out_more_and_turned_about(self):
        right = face()
        for at in range(3):
            self.no(right[:at] + right[at + 1:], right[:at] + ((),) + right[at:], right[:at] + ("A",) + right[at:])
        self.no(right + ((),), right + right, right[::-1], (right,), (right[0], right[2], right[1]))

    def test_the_first_word(self):
        for word in ("kind", "Face", "fac", "faces", "face ", "", "FACE", 2, 0, (), ("face",)):
            self.no((word,) + face()[1:])


class OtherKindsOfValues(Case):

    def test_the_rich_units_are_units(self):
        self.yes(RICH_KIND, RICH_FACE)

    def test_another_kind_of_value_at_each_place(self):
        bottom = deep()
        texts = ("", "a", "A", "num", "kind", "give", "0")
        numbers = (0, 1, -1, 10 ** 30, True, False)
        tuples = (("num",), ("A",), ("a",), (1,), (0, 0), ((),), GIVE, RICH_KIND, RICH_FACE, bottom)
        for unit in (RICH_KIND, RICH_FACE):
            for path in paths(unit):
                held = at_path(unit, path)
                others = [others for sort, others in ((str, texts), (int, numbers), (tuple, tuples + ((),)))
                          if not isinstance(held, sort)]
                for other in others[0] + others[1]:
                    if is_unit(with_other(unit, path, other)) is not False:
                        self.fail(f"another kind of value at {path}")

    def test_an_empty_tuple_at_each_place(self):
        lets = list(EMPTY_LETS.values())
        for unit in (RICH_KIND, RICH_FACE):
            for path in paths(unit):
                expected = (unit, path) in lets or at_path(unit, path) == ()
                self.assertIs(is_unit(with_other(unit, path, ())), expected, path)

    def test_a_truth_at_each_place(self):
        for unit in (RICH_KIND, RICH_FACE):
            for path in paths(unit):
                for truth in (True, False):
                    self.assertIs(is_unit(with_other(unit, path, truth)), False, path)

    def test_tuples_that_are_no_units(self):
        many = (0,) * 1000000
        for thing in (
            (), ((),), ("",), ("kind",), ("face",), (0,), (1, 2, 3), (1, 2, 3, 4, 5, 6), ((),) * 3, ((),) * 6,
            ("kind", "face", "kind", "face", "kind", "face"), ("face", "face", "face"), ("A",) * 6, many,
            ("kind", "A", "", many, (), ()), ("kind", "A", "", (), many, ()), ("kind", "A", "", (), (), many),
            ("face", "A", many), kind(ways=(way(takes=many),)), kind(ways=(way(rows=many),)),
            kind(ways=(way(entries=many),)), kind(ways=(way(catches=many),)), kind(ways=(way(rows=(many,)),)),
            (RICH_KIND, RICH_FACE), deep(), ("kind",) + (deep(),) * 5, ("face",) + (deep(),) * 2,
        ):
            if is_unit(thing) is not False:
                self.fail(f"a tuple of {len(thing)}")

    def test_it_tells_the_same_again_and_changes_nothing(self):
        again = with_other(RICH_KIND, (1,), RICH_KIND[1])
        for _ in range(3):
            self.yes(RICH_KIND, RICH_FACE)
            self.no(kind("a"), face("a"))
        self.assertEqual(RICH_KIND, again)


if __name__ == "__main__":
    unittest.main()
