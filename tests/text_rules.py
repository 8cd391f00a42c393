"""The points [9] and [10] once more, by other means: each rule by itself, over all lines of a text.

A text is refused where one of the rules of the first round finds a line, at
the least of these; else where one of the second round's does. What the rules
find behind the first wrong line is of no account, so they need not agree on
what a wrong line is.
"""

import re
from collections import Counter

NAME = "[a-z][a-z0-9]{0,11}"
UNIT = "[A-Z][a-z0-9]{0,11}"
ANY_TYPE = f"(num|{UNIT})"

FORMS = re.compile("|".join((
    f"kind {UNIT}( above {UNIT})?( faces( {UNIT})+)?",
    f"face {UNIT}",
    f"field {NAME} {ANY_TYPE}",
    f"way {NAME}( {ANY_TYPE})* gives {ANY_TYPE}",
    f"catch {NAME} {NAME} {NAME}",
    f"at {NAME} [0-8]",
    f"mark {NAME}",
    "ask|say|drop|twin|turn|plus|minus|times|part|same|give|throw",
    "num (0|-?[1-9][0-9]{0,11}|-1000000000000)",
    "(get|put) [0-7]",
    f"(fits|new) {UNIT}",
    f"(read|write|call|hail) {UNIT} {NAME}",
    f"(jump|nought) {NAME}",
)))

NO_ROWS = ("kind", "face", "field", "way", "catch", "at", "mark", "")


class Sheet:

    def __init__(self, text):
        self.lines = text.split("\n")
        self.words = [line.split(" ") for line in self.lines]
        self.fronts = [words[0] for words in self.words]
        self.is_face = self.fronts[0] == "face"
        # For each line the line of its way, None ahead of all ways.
        self.ways = []
        for at, front in enumerate(self.fronts):
            ahead = self.ways[-1] if at else None
            self.ways.append(at if front == "way" else ahead)

    def those(self, *fronts):
        return [at for at, front in enumerate(self.fronts) if front in fronts]

    def rows(self):
        return [at for at, front in enumerate(self.fronts) if front not in NO_ROWS]

    def rows_ahead(self, at):
        """How many rows of its way are ahead of the line."""
        return len([row for row in self.rows() if row < at and self.ways[row] == self.ways[at]])

    def many(self, at):
        return len([row for row in self.rows() if self.ways[row] == self.ways[at]])

    def label(self, at, name):
        for line in self.those("at", "mark"):
            if self.ways[line] == self.ways[at] and self.words[line][1] == name:
                return self.rows_ahead(line)
        return None

    def heights(self, at):
        """The heights of the entries of the line's way."""
        found = {}
        for line in self.those("at"):
            row = self.rows_ahead(line)
            if self.ways[line] == self.ways[at] and row < self.many(at):
                found.setdefault(row, int(self.words[line][2]))
        return found

    def formless(self):
        return [at for at, line in enumerate(self.lines) if not FORMS.fullmatch(line)]

    def heads(self):
        return [at for at, front in enumerate(self.fronts) if (front in ("kind", "face")) != (at == 0)]

    def misplaced(self):
        inner = self.rows() + self.those("catch", "at", "mark")
        found = [at for at in inner if self.ways[at] is None]
        found += [at for at in self.those("field") if self.ways[at] is not None]
        if self.is_face:
            found += inner + self.those("field")
        for at in self.those("catch"):
            found += [at for one in self.rows() + self.those("at", "mark") if one < at and self.ways[one] == self.ways[at]]
        return found

    def again(self):
        seen = Counter()
        found = [0] if any(many > 1 for many in Counter(re.findall(UNIT, self.lines[0].partition(" faces ")[2])).values()) else []
        for at, words in enumerate(self.words):
            key = {"field": ("field",), "way": ("way",), "at": (self.ways[at],), "mark": (self.ways[at],)}.get(words[0])
            if key and len(words) > 1:
                seen[key + (words[1],)] += 1
                found += [at] if seen[key + (words[1],)] > 1 else []
        return found

    def one_more(self):
        found = self.those("field")[6:] + self.those("way")[8:]
        for way in self.those("way"):
            found += [at for at in self.rows() if self.ways[at] == way][40:]
            found += [at for at in self.those("catch") if self.ways[at] == way][4:]
            found += [way] if len(self.words[way]) > 10 else []
        found += [0] if len(self.lines[0].partition(" faces ")[2].split(" ")) > 3 else []
        return found

    def first_round(self):
        return self.formless() + self.heads() + self.misplaced() + self.again() + self.one_more()

    def second_round(self):
        if self.is_face:
            return [] if self.those("way") else [0]
        found = [way for way in self.those("way") if not self.many(way)]
        for at in self.those("jump", "nought"):
            found += [at] if self.label(at, self.words[at][1]) not in self.heights(at) else []
        for at in self.those("catch"):
            first, end, back = (self.label(at, name) for name in self.words[at][1:])
            right = None not in (first, end, back) and first < end and self.heights(at).get(back) == 1
            found += [] if right else [at]
        made = []
        for at in self.those("at"):
            place = (self.ways[at], self.rows_ahead(at))
            found += [at] if place in made or place[1] == self.many(at) else []
            made.append(place)
        return found


def bad_line_by_rules(text):
    sheet = Sheet(text)
    for told in (sheet.first_round, sheet.second_round):
        found = told()
        if found:
            return min(found)
    return None
