"""What there is to know of a body's rows, by a house."""

from strangemill.bounds import BOXES
from strangemill.deeds import deed_of
from strangemill.marks import mark_of
from strangemill.rows import MAY_FAULT


class Sheet:
    """A body in a house; what is asked of its rows is worked out once."""

    def __init__(self, house, body):
        self.home = house
        self.kind, self.way = body
        self.rows = self.way[3]
        self.height_of = dict(self.way[4])
        self._deeds = {}
        self._marks = {}
        self._live = None

    def deed(self, at):
        """What the row of that number takes and brings; None where what it names is not there."""
        if at not in self._deeds:
            self._deeds[at] = deed_of(self.home, self.way[2], self.rows[at])
        return self._deeds[at]

    def mark(self, sort):
        """The mark of a type."""
        if sort not in self._marks:
            self._marks[sort] = mark_of(self.home, sort)
        return self._marks[sort]

    def fault_row(self, at):
        """The row to which a fault of that row leads; None where it may not fault or has no catch."""
        if self.rows[at][0] in MAY_FAULT:
            for first, end, row in self.way[5]:
                if first <= at < end:
                    return row
        return None

    def deed_rows(self, at):
        """The rows to which that row leads by its deed."""
        row = self.rows[at]
        if row[0] in ("give", "throw"):
            return []
        if row[0] == "jump":
            return [row[1]]
        return [at + 1, row[1]] if row[0] == "nought" else [at + 1]

    def rows_behind(self, at):
        """The rows that may come behind that row."""
        row = self.fault_row(at)
        return self.deed_rows(at) if row is None else self.deed_rows(at) + [row]

    def live(self, at):
        """The boxes that are live at that row, rising."""
        if self._live is None:
            self._live = live_boxes(self)
        return self._live[at]

    def height(self, entry):
        """The height of the stack at an entry, or at row 0."""
        return self.height_of.get(entry, 0)

    def blocks(self):
        """Row 0 and the entries to which one may come from it, rising."""
        found = {0: True}
        todo = [0]
        while todo:
            for row in self.rows_behind(todo.pop()):
                # Behind the last row there is nothing to go on from.
                if row not in found and row < len(self.rows):
                    found[row] = True
                    todo.append(row)
        return [row for row in sorted(found) if row == 0 or row in self.height_of]


def live_boxes(sheet):
    """For each row, and for the number of rows, the boxes that are live there."""
    many = len(sheet.rows)
    # Box b is live at a row where the number of that row has the bit 1 << b.
    bits = [0] * (many + 1)
    is_new = True
    while is_new:
        is_new = False
        for at in reversed(range(many)):
            found = bits_ahead(sheet.rows[at], [bits[row] for row in sheet.rows_behind(at)])
            if found != bits[at]:
                bits[at] = found
                is_new = True
    return [[box for box in range(BOXES) if (number >> box) & 1 == 1] for number in bits]


def bits_ahead(row, behind):
    """The bits of the boxes that are live at a row, by those of the rows that may come behind it."""
    found = 0
    for number in behind:
        found = found | number
    if row[0] == "get":
        return found | (1 << row[1])
    if row[0] == "put":
        return found & ~(1 << row[1])
    return found
