"""The blocks of a body that is let by, gone through with terms for values.

A term is a tuple: ("in", sort, number) for what lies in a place at first,
("num", n), ("out", row), ("fault",), or ("quiet", n) for the n-th of what quiet
rows bring, two of which are one where their words and their terms are alike. So
no term grows, however often values are added to themselves.
"""

from strangemill.bounds import BOXES
from strangemill.reckoning import reckoned
from strangemill.rows import QUIET, SHUFFLES, shuffle, taken

FAULT = ("fault",)

# At these it is told what lies in the places.
SEEN = ("ask", "new", "call", "hail")


class Point:
    """A row of a block, or its end, that is no mere moving of values, with the terms as they are there.

    Its role is `quiet`, `deed`, `nought` for an open one, or at the end `to`, `give` or
    `throw`; boxes and stack are as they are behind what it takes; goal is the
    entry to which a nought or a to leads.
    """

    def __init__(self, role, at, takings, brings, boxes, stack, goal):
        self.role = role
        self.at = at
        self.takings = takings
        self.brings = brings
        self.boxes = boxes
        self.stack = stack
        self.goal = goal


class Walk:
    """A block while it is gone through, from its entry to its end."""

    def __init__(self, sheet, entry):
        self.sheet = sheet
        self.at = entry
        self.boxes = [None] * BOXES
        self.stack = []
        for place, _ in places_of(sheet, entry):
            if place[0] == "box":
                self.boxes[place[1]] = ("in", *place)
            else:
                self.stack.append(("in", *place))
        self.quiet_terms = {}
        self.points = []

    def note(self, role, takings, brings, goal):
        """Notes a point at the row."""
        self.points.append(Point(role, self.at, takings, brings, list(self.boxes), list(self.stack), goal))

    def goes_on(self):
        """Goes through a row; tells whether the block goes on behind it."""
        row = self.sheet.rows[self.at]
        if row[0] in SHUFFLES:
            shuffle(row, self.boxes, self.stack)
        elif row[0] == "num":
            # The row is written just as its term is.
            self.stack.append(row)
        elif row[0] in ("jump", "nought", "give", "throw"):
            if self.ends_at(row):
                return False
        else:
            self.works(row[0])
        self.at += 1
        if self.at in self.sheet.height_of:
            self.note("to", [], None, self.at)
            return False
        return True

    def ends_at(self, row):
        """Goes through a row that may lead elsewhere; tells whether the block ends by it."""
        if row[0] == "jump":
            self.note("to", [], None, row[1])
            return True
        term = self.stack.pop()
        if row[0] in ("give", "throw"):
            self.note(row[0], [term], None, None)
            return True
        if term == ("num", 0):
            self.note("to", [], None, row[1])
            return True
        if term[0] != "num":
            self.note("nought", [term], None, row[1])
        return False

    def works(self, word):
        """Goes through a quiet row or a deed."""
        deed = self.sheet.deed(self.at)
        takings = taken(self.stack, len(deed.wants))
        brings = None
        if word in QUIET:
            brings = self.quiet_term(word, takings)
        elif deed.brings is not None:
            brings = ("out", self.at)
        self.note("quiet" if word in QUIET else "deed", takings, brings, None)
        if brings is not None:
            self.stack.append(brings)

    def quiet_term(self, word, takings):
        """The term of what a quiet row brings."""
        first, second = takings
        if word != "same" and first[0] == "num" and second[0] == "num":
            return ("num", reckoned(word, first[1], second[1]))
        key = (word, first, second)
        if key not in self.quiet_terms:
            self.quiet_terms[key] = ("quiet", len(self.quiet_terms))
        return self.quiet_terms[key]


def points_of(sheet, entry):
    """The points of the block of an entry, in order, the last one its end."""
    walk = Walk(sheet, entry)
    goes_on = True
    while goes_on:
        goes_on = walk.goes_on()
    return walk.points


def places_of(sheet, entry):
    """The places of the block's map, each with the number of the register that is its own in told plans."""
    boxes = [(("box", box), box) for box in sheet.live(entry)]
    return boxes + [(("stack", at), BOXES + at) for at in range(sheet.height(entry))]


def term_at(place, boxes, stack):
    """What lies in a place."""
    return boxes[place[1]] if place[0] == "box" else stack[place[1]]


def seen_places(sheet, point):
    """The places of which it is told what lies there when a deed is done."""
    if sheet.rows[point.at][0] not in SEEN:
        return []
    return [("box", box) for box in sheet.live(point.at)] + [("stack", at) for at in range(len(point.stack))]
