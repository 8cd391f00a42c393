"""How the pack of a unit is written."""

from strangemill.bounds import WORDS
from strangemill.units import PARTS


def starts_of(rows):
    """For each row of a way how many codes of rows are ahead of it, and behind these how many there are."""
    starts = [0]
    for row in rows:
        # The word of a row is one code, and so is each of its parts.
        starts.append(starts[-1] + len(row))
    return starts


class Packing:
    """A pack while it is written."""

    def __init__(self):
        # The number of each word that was used, in the order of their first use.
        self.words = {}
        self.codes = []

    def write(self, number):
        """Writes a number by itself."""
        self.codes.append(number)

    def write_name(self, word):
        """Writes a name by the number of its word."""
        if word not in self.words:
            self.words[word] = len(self.words)
        self.write(self.words[word])

    def write_type(self, word):
        """Writes a type, or what stands above a kind."""
        if word in ("num", ""):
            self.write(0)
        else:
            self.write_name(word)
            self.codes[-1] += 1

    def write_kind(self, unit):
        """Writes a kind."""
        _, name, above, faces, fields, ways = unit
        self.write(1)
        self.write_name(name)
        self.write_type(above)
        self.write(len(faces))
        for face in faces:
            self.write_name(face)
        self.write(len(fields))
        for field in fields:
            self.write_name(field[0])
            self.write_type(field[1])
        self.write(len(ways))
        for way in ways:
            self.write_way(way)

    def write_face(self, unit):
        """Writes a face."""
        _, name, signatures = unit
        self.write(2)
        self.write_name(name)
        self.write(len(signatures))
        for signature in signatures:
            self.write_signature(signature)

    def write_signature(self, signature):
        """Writes a signature."""
        name, takes, gives = signature
        self.write_name(name)
        self.write(len(takes))
        for take in takes:
            self.write_type(take)
        self.write_type(gives)

    def write_way(self, way):
        """Writes a way of a kind."""
        rows, entries, catches = way[3:]
        starts = starts_of(rows)
        self.write_signature(way[:3])
        self.write(len(rows))
        for row in rows:
            self.write_row(row, starts)
        self.write(len(entries))
        for row, height in entries:
            self.write(starts[row])
            self.write(height)
        self.write(len(catches))
        for catch in catches:
            for row in catch:
                self.write(starts[row])

    def write_row(self, row, starts):
        """Writes a row of a way whose rows start there."""
        self.write(WORDS.index(row[0]))
        for sort, part in zip(PARTS[row[0]], row[1:]):
            if sort in ("unit", "name"):
                self.write_name(part)
            elif sort == "entry":
                self.write(starts[part])
            else:
                self.write(part)
