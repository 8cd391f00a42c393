"""How the unit of a pack is read, code by code from the front."""

from strangemill.bounds import BOXES, CATCHES, FACES, FIELDS, REACH, ROWS, SIGNATURES, STACK, TAKES, WAYS, WORDS
from strangemill.errors import BadCode
from strangemill.names import is_name, is_unit_name, is_whole, is_within
from strangemill.packing import starts_of
from strangemill.rows import leads_on
from strangemill.units import PARTS


def names_of(named):
    """The names by which things begin."""
    return [one[0] for one in named]


class Unpacking:
    """A pack while it is read; what is not right is refused with BadCode."""

    def __init__(self, words, codes):
        self.words = words
        self.codes = codes
        # How many codes were read, and how many words were used.
        self.read_codes = 0
        self.used_words = 0

    def read(self):
        """The next code, whatever number it is."""
        if self.read_codes == len(self.codes):
            raise BadCode(self.read_codes)
        code = self.codes[self.read_codes]
        self.read_codes += 1
        self.want(is_whole(code))
        return code

    def want(self, holds):
        """Refuses the code that was read last where what is wanted of it does not hold."""
        if not holds:
            raise BadCode(self.read_codes - 1)

    def read_end(self):
        """Refuses codes that are left over, and words that were never used."""
        if self.read_codes < len(self.codes):
            raise BadCode(self.read_codes)
        if self.used_words < len(self.words):
            raise BadCode(len(self.codes))

    def read_within(self, low, high):
        """A number from low to high."""
        number = self.read()
        self.want(is_within(number, low, high))
        return number

    def word_of(self, number, is_right):
        """The word of the number that the code read last tells, of the sort that is right there."""
        self.want(is_within(number, 0, min(self.used_words, len(self.words) - 1)))
        word = self.words[number]
        self.want(is_right(word))
        if number == self.used_words:
            self.want(word not in self.words[:number])
            self.used_words += 1
        return word

    def read_name(self, there):
        """A name that is not among those that are there."""
        name = self.word_of(self.read(), is_name)
        self.want(name not in there)
        return name

    def read_unit_name(self, there):
        """Likewise a unit name."""
        name = self.word_of(self.read(), is_unit_name)
        self.want(name not in there)
        return name

    def read_type(self, none):
        """The name of a unit, or what stands for none in that place."""
        code = self.read()
        return none if code == 0 else self.word_of(code - 1, is_unit_name)

    def read_unit(self):
        """A unit."""
        return self.read_kind() if self.read_within(1, 2) == 1 else self.read_face()

    def read_kind(self):
        """A kind, behind its first code."""
        name = self.read_unit_name(())
        above = self.read_type("")
        faces = []
        for _ in range(self.read_within(0, FACES)):
            faces.append(self.read_unit_name(faces))
        fields = []
        for _ in range(self.read_within(0, FIELDS)):
            field = self.read_name(names_of(fields))
            fields.append((field, self.read_type("num")))
        ways = []
        for _ in range(self.read_within(0, WAYS)):
            ways.append(self.read_way(names_of(ways)))
        return ("kind", name, above, tuple(faces), tuple(fields), tuple(ways))

    def read_face(self):
        """A face, behind its first code."""
        name = self.read_unit_name(())
        signatures = []
        for _ in range(self.read_within(1, SIGNATURES)):
            signatures.append(self.read_signature(names_of(signatures)))
        return ("face", name, tuple(signatures))

    def read_signature(self, there):
        """A signature whose name is not among those that are there."""
        name = self.read_name(there)
        takes = []
        for _ in range(self.read_within(0, TAKES)):
            takes.append(self.read_type("num"))
        return (name, tuple(takes), self.read_type("num"))

    def read_way(self, there):
        """A way whose name is not among those that are there."""
        signature = self.read_signature(there)
        many = self.read_within(1, ROWS)
        place = self.read_codes
        rows = []
        for _ in range(many):
            rows.append(self.read_row())
        starts = starts_of(rows)
        numbers = {start: number for number, start in enumerate(starts)}
        entries = self.read_entries(many, numbers)
        heights = dict(entries)
        catches = self.read_catches(many, numbers, heights)
        # Only now it is known where a row may lead.
        for at, row in enumerate(rows):
            if leads_on(row) and numbers.get(row[1]) not in heights:
                raise BadCode(place + starts[at] + 1)
        told = [(row[0], numbers[row[1]]) if leads_on(row) else row for row in rows]
        return (*signature, tuple(told), entries, catches)

    def read_row(self):
        """A row; where it leads to one, with the code that tells where."""
        word = WORDS[self.read_within(0, len(WORDS) - 1)]
        parts = [self.read_part(sort) for sort in PARTS[word]]
        return (word, *parts)

    def read_part(self, sort):
        """A part of a row, of the sort that its place wants."""
        if sort == "number":
            return self.read_within(-REACH, REACH - 1)
        if sort == "box":
            return self.read_within(0, BOXES - 1)
        if sort == "unit":
            return self.read_unit_name(())
        if sort == "name":
            return self.read_name(())
        return self.read()

    def read_place(self, numbers, low, high):
        """The number of a row, from low to high, by the number of codes ahead of it."""
        row = numbers.get(self.read())
        self.want(is_within(row, low, high))
        return row

    def read_entries(self, many, numbers):
        """The entries of a way with so many rows."""
        entries = []
        least = 0
        for _ in range(self.read_within(0, many)):
            row = self.read_place(numbers, least, many - 1)
            entries.append((row, self.read_within(0, STACK)))
            least = row + 1
        return tuple(entries)

    def read_catches(self, many, numbers, heights):
        """The catches of a way with so many rows, and entries of these heights."""
        catches = []
        for _ in range(self.read_within(0, CATCHES)):
            first = self.read_place(numbers, 0, many - 1)
            end = self.read_place(numbers, first + 1, many)
            at = numbers.get(self.read())
            self.want(heights.get(at) == 1)
            catches.append((first, end, at))
        return tuple(catches)
