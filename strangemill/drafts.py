"""A unit while its text is read: line by line, with labels for rows' numbers.

Whether a line is right where it stands hangs on the lines ahead of it alone:
that is the first round, and a draft takes only what is right by it. What hangs
on the lines behind is looked at in a second round, when all lines are taken.
"""

from strangemill.bounds import CATCHES, FIELDS, ROWS, SIGNATURES, WAYS
from strangemill.lines import catch_of, entry_of, field_of, head_of, label_of, row_of, signature_of
from strangemill.rows import leads_on
from strangemill.units import is_catch, is_row


class WayDraft:
    """A way, or a signature, as far as its lines were taken."""

    def __init__(self, line, head):
        self.line = line
        self.head = head
        # For each label the number of rows ahead of it, which is its row's number.
        self.labels = {}
        self.entry_lines = []
        self.catch_lines = []
        self.row_lines = []

    def takes(self, line, words):
        """Takes a line behind the first one of the way, where it is right; tells whether it is."""
        if words[0] == "catch":
            return self.takes_catch(line, catch_of(words))
        if words[0] == "mark":
            return self.takes_label(label_of(words))
        if words[0] == "at":
            return self.takes_entry(line, entry_of(words))
        return self.takes_row(line, row_of(words))

    def takes_catch(self, line, catch):
        """Takes a catch, ahead of all labels and rows."""
        if catch is None or self.labels or self.row_lines or len(self.catch_lines) == CATCHES:
            return False
        self.catch_lines.append((line, catch))
        return True

    def takes_label(self, label):
        """Takes a label that the way has not yet."""
        if label is None or label in self.labels:
            return False
        self.labels[label] = len(self.row_lines)
        return True

    def takes_entry(self, line, entry):
        """Takes a label with the height of an entry."""
        if entry is None or not self.takes_label(entry[0]):
            return False
        self.entry_lines.append((line, len(self.row_lines), entry[1]))
        return True

    def takes_row(self, line, row):
        """Takes a row."""
        if row is None or len(self.row_lines) == ROWS:
            return False
        self.row_lines.append((line, row))
        return True

    def heights(self):
        """The height of each entry, by its row's number, rising."""
        found = {}
        for _, row, height in self.entry_lines:
            if row < len(self.row_lines) and row not in found:
                found[row] = height
        return found

    def catch_at(self, labels):
        """The catch of these labels; None stands where the way has no such label."""
        return tuple([self.labels.get(label) for label in labels])

    def row_at(self, row):
        """The row with a number in the place of its label; None where the way has no such label."""
        if leads_on(row):
            return (row[0], self.labels.get(row[1]))
        return row

    def faults(self):
        """The lines that are wrong by what stands behind them in the way."""
        heights = self.heights()
        many = len(self.row_lines)
        faults = [self.line] if many == 0 else []
        faults += [line for line, labels in self.catch_lines if not is_catch(self.catch_at(labels), many, heights)]
        faults += [line for line, row in self.row_lines if not is_row(self.row_at(row), heights)]
        return faults + self.entry_faults()

    def entry_faults(self):
        """The lines of `at` by which no entry is made."""
        faults = []
        last = -1
        for line, row, _ in self.entry_lines:
            if row in (last, len(self.row_lines)):
                faults.append(line)
            last = row
        return faults

    def finished(self):
        """The way, where it has no faults."""
        rows = tuple([self.row_at(row) for line, row in self.row_lines])
        entries = tuple(self.heights().items())
        catches = tuple([self.catch_at(labels) for line, labels in self.catch_lines])
        return (*self.head, rows, entries, catches)


class Draft:
    """A unit as far as its lines were taken."""

    def __init__(self):
        self.head = None
        self.pairs = []
        self.ways = []

    def takes(self, line, words):
        """Takes the next line, where it is right; tells whether it is."""
        if self.head is None:
            self.head = head_of(words)
            return self.head is not None
        if words[0] == "way":
            return self.takes_way(line, signature_of(words))
        if self.head[0] == "face":
            return False
        if words[0] == "field":
            return self.takes_field(field_of(words))
        return len(self.ways) > 0 and self.ways[-1].takes(line, words)

    def takes_way(self, line, signature):
        """Takes the first line of a way, or a signature, whose name is not there yet."""
        most = WAYS if self.head[0] == "kind" else SIGNATURES
        if signature is None or len(self.ways) == most:
            return False
        if signature[0] in [way.head[0] for way in self.ways]:
            return False
        self.ways.append(WayDraft(line, signature))
        return True

    def takes_field(self, field):
        """Takes a field, ahead of all ways, whose name is not there yet."""
        if field is None or self.ways or len(self.pairs) == FIELDS:
            return False
        if field[0] in [pair[0] for pair in self.pairs]:
            return False
        self.pairs.append(field)
        return True

    def faults(self):
        """The lines that are wrong by what stands behind them."""
        if self.head[0] == "face":
            return [] if self.ways else [0]
        faults = []
        for way in self.ways:
            faults += way.faults()
        return faults

    def finished(self):
        """The unit, where it has no faults."""
        if self.head[0] == "face":
            return (*self.head, tuple([way.head for way in self.ways]))
        return (*self.head, tuple(self.pairs), tuple([way.finished() for way in self.ways]))
