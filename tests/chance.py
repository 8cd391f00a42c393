"""Units by chance, each time the same ones, as the seed is told."""

import random

from samples import PLAIN, face, kind

UNIT_NAMES = ("A", "B", "Kind", "Face", "K1", "Abcdefghijkl", "Num")
NAMES = ("a", "b", "num", "kind", "way", "gives", "r0", "r7", "at", "abcdefghijkl", "faces", "give", "x9", "above")
NUMBERS = (0, 1, -1, 7, 8, 40, 123456, -1000000000000, 999999999999)


class Chance:

    def __init__(self, seed):
        self.random = random.Random(seed)

    def up_to(self, most, least=0):
        return self.random.randint(least, most)

    def one(self, those):
        return self.random.choice(those)

    def some(self, those, most, least=0):
        """Unlike ones of those."""
        return tuple(self.random.sample(those, self.up_to(most, least)))

    def sort(self):
        return self.one(("num",) + UNIT_NAMES)

    def signature(self, name):
        return (name, tuple(self.sort() for _ in range(self.up_to(6))), self.sort())

    def row(self, entries):
        word = self.one(PLAIN + ("num", "get", "put", "fits", "new", "read", "write", "call", "hail") * 2)
        if entries and self.up_to(3) == 0:
            return (self.one(("jump", "nought")), self.one(entries)[0])
        if word == "num":
            return (word, self.one(NUMBERS))
        if word in ("get", "put"):
            return (word, self.up_to(7))
        if word in ("fits", "new"):
            return (word, self.one(UNIT_NAMES))
        if word in ("read", "write", "call", "hail"):
            return (word, self.one(UNIT_NAMES), self.one(NAMES))
        return (word,)

    def way(self, name):
        many = self.one((1, 2, 3, 5, 9, 40))
        rows = sorted(self.some(range(many), min(many, 6)))
        entries = tuple((row, self.one((0, 1, 1, 2, 8))) for row in rows)
        ats = [row for row, height in entries if height == 1]
        catches = []
        for _ in range(self.up_to(4) if ats else 0):
            first, end = sorted(self.random.sample(range(many + 1), 2))
            catches.append((first, end, self.one(ats)))
        rows = tuple(self.row(entries) for _ in range(many))
        return self.signature(name) + (rows, entries, tuple(catches))

    def unit(self):
        name = self.one(UNIT_NAMES)
        if self.up_to(4) == 0:
            return face(name, tuple(self.signature(one) for one in self.some(NAMES, 8, 1)))
        return kind(
            name, self.one(("",) + UNIT_NAMES), self.some(UNIT_NAMES, 3),
            tuple((one, self.sort()) for one in self.some(NAMES, 6)),
            tuple(self.way(one) for one in self.some(NAMES, self.one((1, 2, 8)))),
        )


def units(many, seed=1):
    chance = Chance(seed)
    return [chance.unit() for _ in range(many)]
