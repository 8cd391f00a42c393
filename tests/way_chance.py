"""Houses by chance whose ways are mostly let by, each time the same ones, as the seed is told.

The units are told first, with their signatures; then the rows of each way, one
behind the other, each such that it does not go wrong by what is known there. In
some places this is let be, so that there are ways that do go wrong.
"""

import random

from look_rules import Body, common
from strangemill.house import House

PLACEHOLDER = (("ask",), ("drop",))

ROW_WORDS = (
    "ask", "say", "drop", "twin", "turn", "plus", "minus", "times", "part", "same", "throw", "num", "num", "num",
    "get", "get", "get", "get", "put", "put", "put", "fits", "new", "new", "new", "read", "read", "write", "call", "call",
    "call", "hail", "hail", "jump", "nought", "nought", "give",
)


class Houses:

    def __init__(self, seed, *, rash=0.02, most_rows=24):
        self.random = random.Random(seed)
        self.rash = rash
        self.most_rows = most_rows

    def chance(self, part):
        return self.random.random() < part

    def one(self, those):
        return self.random.choice(list(those))

    def house(self):
        units = self.skeleton()
        house = House(units)
        told = []
        for unit in units:
            if unit[0] == "kind":
                ways = tuple(self.way(house, unit[1], way) for way in unit[5])
                unit = unit[:5] + (ways,)
            told.append(unit)
        return House(told)

    def skeleton(self):
        kinds = ["A", "B", "C", "D"][:self.random.randint(2, 4)]
        faces = ["F", "G"][:self.random.randint(1, 2)]
        sorts = ["num"] * 4 + kinds + faces
        signatures = {name: (tuple(self.one(sorts) for _ in range(self.random.randint(0, 2))), self.one(sorts))
                      for name in ("go", "run", "sum")}
        signatures["main"] = (("num",) * self.random.randint(0, 2), self.one(["num", "num"] + kinds))
        units = [("face", face, tuple((name,) + signatures[name] for name in self.some(("go", "run", "sum"), 1)))
                 for face in faces]
        above_of, has = {}, {}
        for at, name in enumerate(kinds):
            above = self.one([""] + kinds[1:at]) if at > 1 else ""
            above_of[name] = above
            own = list(self.some(("go", "run", "sum"), 0)) + (["main"] if at == 0 or self.chance(0.2) else [])
            got = [face for face in units if face[0] == "face" and self.chance(0.6)][:3]
            have = set(own) | has.get(above, set())
            for face in got:
                for one in face[2]:
                    if one[0] not in have:
                        own.append(one[0])
                        have.add(one[0])
            has[name] = have
            fields = () if at > 1 and self.chance(0.3) else tuple(
                (f"f{at}{number}", "num" if at == 0 else self.one(sorts)) for number in range(self.random.randint(0, 2)))
            ways = tuple((way,) + signatures[way] + (PLACEHOLDER, (), ()) for way in own)
            units.append(("kind", name, above, tuple(face[1] for face in got), fields, ways))
        return units

    def some(self, those, least):
        return tuple(self.random.sample(those, self.random.randint(least, len(those))))

    def way(self, house, kind, way):
        """The way with rows, entries and catches."""
        for _ in range(6):
            told = Rows(self, house, kind, way).told()
            if told is not None:
                return told
        return way[:3] + ((("num", 7), ("throw",)), (), ())


class Rows:
    """The rows of a way, as they come."""

    def __init__(self, houses, house, kind, way):
        self.houses, self.house = houses, house
        self.kind, self.head = kind, way[:3]
        self.rows, self.entries, self.catches = [], [], []
        # Noughts and jumps whose entry is yet to come: the height, and the stands there.
        self.pending = []
        self.stands = {}
        self.stand = self.body().beginning()[1:]
        self.many = houses.random.randint(2, houses.most_rows)
        # The catch leads to a row near the end, if there is one.
        self.handler = houses.chance(0.45)

    def body(self):
        return Body(self.house, (self.kind, self.head + (tuple(self.rows), (), ())))

    def told(self):
        while len(self.rows) < self.many:
            if not self.go_on():
                return None
        if not self.finish():
            return None
        rows = tuple((row[0], row[1]["at"]) if isinstance(row[-1], dict) else row for row in self.rows)
        way = self.head + (rows, tuple(sorted(self.entries)), tuple(self.catches))
        return way if len(rows) <= 40 else None

    def place(self, label, stands):
        """Makes the next row the entry of a label."""
        at = len(self.rows)
        label["at"] = at
        stands = stands + ([self.stand] if self.stand else [])
        boxes = tuple(common([one[0][b] for one in stands]) for b in range(8))
        stack = tuple(common([one[1][b] for one in stands]) for b in range(len(stands[0][1])))
        self.stand = (boxes, stack)
        if at not in self.stands:
            self.entries.append((at, len(stack)))
        self.stands[at] = self.stand

    def go_on(self):
        houses = self.houses
        ready = [one for one in self.pending if self.stand is None or len(one[1][0][1]) == len(self.stand[1])]
        if self.stand is None and not ready:
            return False
        if ready and (self.stand is None or houses.chance(0.3)):
            one = houses.one(ready)
            self.pending = [other for other in self.pending if other is not one]
            self.place(*one)
            return True
        if houses.chance(0.12) and len(self.rows) not in self.stands:
            # An entry for rows to come back to; what was known may not be known any more.
            boxes = tuple("any" if houses.chance(0.3) else mark for mark in self.stand[0])
            self.stand = (boxes, self.stand[1])
            self.place({}, [])
            return True
        return self.row()

    def row(self):
        if self.houses.chance(0.25):
            return self.deed()
        return self.add(self.any_row())

    def deed(self):
        """A row that takes much, and ahead of it rows that bring what it takes."""
        row = self.any_row(("new", "call", "call", "hail", "hail", "write", "read", "part", "say", "same", "put", "put"))
        takes = Body(self.house, (self.kind, self.head + ((row,), (), ()))).takes_of(row)
        if takes is None or len(self.stand[1]) + len(takes[0]) > 8:
            return True
        for want in takes[0]:
            if not self.gather(want, 3):
                return self.stand is not None
        return self.add(row)

    def gather(self, want, deep):
        """Brings what is wanted; tells whether it could."""
        houses = self.houses
        if want in ("num", "any") and houses.chance(0.7):
            return self.add(houses.one((("num", houses.random.randint(-1, 3)), ("num", 0), ("ask",)))) and self.stand
        boxes = [box for box, mark in enumerate(self.stand[0]) if want == "any" or mark == want
                 or isinstance(mark, tuple) and (want == "thing" or want in mark)]
        if boxes and houses.chance(0.6):
            return self.add(("get", houses.one(boxes))) and self.stand
        kinds = [unit[1] for unit in self.house.units() if unit[0] == "kind" and
                 (want == "thing" or want in (self.house.names(unit[1])))]
        if not kinds or deep == 0 or want == "num":
            return False
        kind = houses.one(kinds)
        for _, sort in self.house.fields(kind):
            if not self.gather(sort, deep - 1):
                return False
        return self.add(("new", kind)) and self.stand

    def add(self, row):
        """Adds the row, where it does not go wrong; tells whether the way may go on."""
        houses = self.houses
        body = Body(self.house, (self.kind, self.head + (tuple(self.rows) + (row,), (), ())))
        stand = (len(self.rows),) + self.stand
        if row[0] in ("nought", "jump"):
            if not self.stand[1] or self.stand[1][-1] != "num":
                if row[0] == "nought":
                    return True
            self.lead(row[0])
            return True
        word = body.wrong(stand)
        if word and not houses.chance(houses.rash):
            return True
        self.rows.append(row)
        if row[0] in ("give", "throw"):
            self.stand = None
            return True
        leads = body.leads(stand)
        if not leads:
            return len(self.stand[1]) < 8
        self.stand = leads[0][1:]
        return True

    def lead(self, word):
        """A nought or jump, back to an entry where one fits, or on to one that comes."""
        boxes, stack = self.stand
        stack = stack[:-1] if word == "nought" else stack
        back = [at for at, one in self.stands.items() if len(one[1]) == len(stack)
                and all(mark == "any" or mark == other or isinstance(mark, tuple) and isinstance(other, tuple)
                        and set(mark) <= set(other) for mark, other in zip(one[0] + one[1], boxes + stack))]
        if back and self.houses.chance(0.5):
            self.rows.append((word, {"at": self.houses.one(back)}))
        else:
            same = [one for one in self.pending if len(one[1][0][1]) == len(stack)]
            if same and self.houses.chance(0.5):
                same[0][1].append((boxes, stack))
                label = same[0][0]
            else:
                label = {}
                self.pending.append((label, [(boxes, stack)]))
            self.rows.append((word, label))
        self.stand = None if word == "jump" else (boxes, stack)

    def any_row(self, words=ROW_WORDS):
        houses, house = self.houses, self.house
        kinds = [unit[1] for unit in house.units() if unit[0] == "kind"]
        faces = [unit for unit in house.units() if unit[0] == "face"]
        word = houses.one(words)
        if word in ("give", "throw", "jump") and houses.chance(0.6):
            word = "get"
        if word in ("get", "put"):
            return (word, houses.one((0, 1, 2, 3, 7)) if houses.chance(0.9) else houses.random.randint(0, 7))
        if word == "num":
            return (word, houses.one((0, 0, 1, 2, -1, 3, -7, 999999999999, -1000000000000)))
        if word == "fits":
            return (word, houses.one(kinds + [face[1] for face in faces]))
        if word == "new":
            return (word, houses.one(kinds))
        if word in ("read", "write"):
            kind = houses.one(kinds)
            names = [name for name, _ in house.fields(kind)]
            return (word, kind, houses.one(names or ["none"]))
        if word == "call":
            kind = houses.one(kinds)
            return (word, kind, houses.one(("go", "run", "sum", "main")))
        if word == "hail" and faces:
            face = houses.one(faces)
            return (word, face[1], houses.one(face[2])[0])
        return ("ask",) if word == "hail" else (word,)

    def finish(self):
        """Ends what goes on, and makes the entries that are yet to come."""
        self.wind_up()
        while self.pending:
            self.place(*self.pending.pop(0))
            same = [one for one in self.pending if len(one[1][0][1]) == len(self.stand[1])]
            for one in same[:1]:
                self.pending = [other for other in self.pending if other is not one]
                self.place(*one)
            self.wind_up()
        if self.handler:
            at = len(self.rows)
            many = self.houses.random.randint(1, 3)
            for _ in range(many):
                first, end = sorted(self.houses.random.sample(range(at + 1), 2))
                self.catches.append((first, end, at))
            self.entries.append((at, 1))
            kind = Body(self.house, (self.kind, self.head + ((), (), ()))).mark(self.kind)
            self.stand = ((kind,) + ("any",) * 7, ("num",))
            if self.houses.chance(0.5):
                self.rows.append(("say",))
                self.stand = (self.stand[0], ())
            self.wind_up()
        return len(self.rows) <= 40

    def wind_up(self):
        """Rows by which the way ends here."""
        if self.stand is None:
            return
        boxes, stack = self.stand
        gives = self.head[2]
        for box, mark in enumerate(boxes):
            if len(stack) < 8 and (mark == "num" if gives == "num" else isinstance(mark, tuple) and gives in mark):
                self.rows += [("get", box), ("give",)]
                self.stand = None
                return
        if gives == "num" and len(stack) < 8:
            self.rows += [("num", self.houses.random.randint(-3, 9)), ("give",)]
        elif gives in [unit[1] for unit in self.house.units() if unit[0] == "kind"] and not self.house.fields(gives) \
                and len(stack) < 8:
            self.rows += [("new", gives), ("give",)]
        elif len(stack) < 8:
            self.rows += [("num", self.houses.random.randint(5, 9)), ("throw",)]
        else:
            self.rows += [("drop",), ("num", 5), ("throw",)]
        self.stand = None


def bodies_of(house):
    """Each body that stands in a kind of the house."""
    return [(unit[1], way) for unit in house.units() if unit[0] == "kind" for way in unit[5]]
