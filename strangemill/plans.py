"""The told plans."""

from strangemill.blocks import FAULT, places_of, points_of, seen_places, term_at
from strangemill.bounds import REGISTERS
from strangemill.sheets import Sheet
from strangemill.stands import is_let_by


def plan_of(house, kind, way):
    """A plan that holds of the way of that name in a kind; None where the way is not let by."""
    sheet = Sheet(house, house.body(kind, way))
    return blocks_of(sheet) if is_let_by(sheet) else None


def blocks_of(sheet):
    """The blocks of a plan of a body that is let by."""
    blocks = []
    for entry in sheet.blocks():
        writer = Writer(sheet, entry)
        for point in points_of(sheet, entry):
            writer.write_point(point)
        blocks.append((entry, places_of(sheet, entry), writer.steps))
    return blocks


class Writer:
    """A block while its steps are written.

    Each term that lies in a place and is no number has a register. At most 16
    terms lie in places, so for a new one that lies in one there is a register,
    too, that holds none of the others.
    """

    def __init__(self, sheet, entry):
        self.sheet = sheet
        self.steps = []
        self.terms = [None] * REGISTERS
        for place, number in places_of(sheet, entry):
            self.terms[number] = ("in", *place)

    def write_point(self, point):
        """Writes the step of a point, where it needs one."""
        sources = self.sources(point.takings)
        if point.role == "quiet":
            if point.brings[0] != "num" and point.brings not in self.terms:
                self.write_do(point, sources, [], [])
        elif point.role == "deed":
            seen = [(place, self.source(term_at(place, point.boxes, point.stack)))
                    for place in seen_places(self.sheet, point)]
            self.write_do(point, sources, self.fault_moves(point), seen)
        elif point.role == "nought":
            self.steps.append(("nought", sources[0], point.goal, self.moves(point.goal, point.boxes, point.stack)))
        elif point.role == "to":
            self.steps.append(("to", point.goal, self.moves(point.goal, point.boxes, point.stack)))
        elif point.role == "give":
            self.steps.append(("give", sources[0]))
        else:
            self.steps.append(("throw", sources[0], self.fault_moves(point)))

    def write_do(self, point, sources, moves, seen):
        """Writes a do, and notes in which register is what it brings."""
        number = None
        if point.brings is not None:
            number = self.free_number(point.boxes + point.stack)
            self.terms[number] = point.brings
        self.steps.append(("do", point.at, sources, number, moves, seen))

    def free_number(self, needed):
        """The number of the first register that holds none of the terms that are needed."""
        number = 0
        while self.terms[number] is not None and self.terms[number] in needed:
            number += 1
        return number

    def source(self, term):
        """A source that has the term."""
        return term if term == FAULT or term[0] == "num" else ("reg", self.terms.index(term))

    def sources(self, terms):
        """Sources that have the terms."""
        return [self.source(term) for term in terms]

    def moves(self, entry, boxes, stack):
        """The moves that fit an entry, where that lies in the boxes and on the stack."""
        found = []
        for place, number in places_of(self.sheet, entry):
            term = term_at(place, boxes, stack)
            if self.terms[number] != term:
                found.append((number, self.source(term)))
        return found

    def fault_moves(self, point):
        """The moves that fit the catch of a row, where it may fault and has one."""
        row = self.sheet.fault_row(point.at)
        return [] if row is None else self.moves(row, point.boxes, [FAULT])
