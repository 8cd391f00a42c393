"""The points [20] to [26] once more, word by word, over stands as they are told."""

from strangemill.errors import MillError

TAKES = {
    "ask": [], "num": [], "get": [], "jump": [], "say": ["num"], "throw": ["num"], "nought": ["num"],
    "put": ["any"], "drop": ["any"], "twin": ["any"], "turn": ["any", "any"], "fits": ["thing"],
    "plus": ["num"] * 2, "minus": ["num"] * 2, "times": ["num"] * 2, "part": ["num"] * 2, "same": ["thing"] * 2,
}


def or_none(act, *told):
    try:
        return act(*told)
    except MillError:
        return None


class Body:
    """A body in a house, by the rules."""

    def __init__(self, house, body):
        self.house = house
        self.units = {unit[1]: unit for unit in house.units()}
        self.kind = body[0]
        _, self.takes, self.gives, self.rows, entries, self.catches = body[1]
        self.entries = list(entries)

    def sort(self, name):
        return self.units[name][0] if name in self.units else None

    def mark(self, told):
        if told == "num":
            return "num"
        if told not in self.units:
            return ()
        return tuple(sorted(name for name in self.units if self.house.fits(told, name)))

    def takes_of(self, row):
        """What a row takes, the lowest first, and what it brings, a list; None where what it names is not there."""
        word = row[0]
        if word == "give":
            return ([self.gives], []) if self.gives == "num" or self.sort(self.gives) else None
        if word == "fits":
            return (["thing"], ["num"]) if self.sort(row[1]) else None
        if word in ("new", "read", "write", "call") and self.sort(row[1]) != "kind":
            return None
        if word == "hail" and self.sort(row[1]) != "face":
            return None
        if word == "new":
            return [told for _, told in self.house.fields(row[1])], [row[1]]
        if word in ("read", "write"):
            found = [told for name, told in self.house.fields(row[1]) if name == row[2]]
            if not found:
                return None
            return ([row[1]], found) if word == "read" else ([row[1]] + found, [])
        if word in ("call", "hail"):
            signature = or_none(self.house.signature, row[1], row[2])
            if signature is None:
                return None
            return [row[1]] + list(signature[0]), [signature[1]]
        brings = ["num"] if word in ("ask", "num", "plus", "minus", "times", "part", "same") else []
        return TAKES[word], brings

    def beginning(self):
        marks = [self.mark(told) for told in (self.kind,) + self.takes]
        return (0, tuple((marks + ["any"] * 8)[:8]), ())

    def wrong(self, stand):
        at, _, stack = stand
        if at == len(self.rows):
            return "off"
        for row, height in self.entries:
            if row == at and height != len(stack):
                return "height"
        told = self.takes_of(self.rows[at])
        if told is None:
            return "lack"
        takes, brings = told
        if len(takes) > len(stack):
            return "low"
        for down in range(1, len(takes) + 1):
            mark, want = stack[-down], takes[-down]
            if want == "num" and mark != "num":
                return "num"
            if want not in ("num", "any") and not isinstance(mark, tuple):
                return "thing"
            if want not in ("num", "any", "thing") and want not in mark:
                return "fits"
        more = {"get": 1, "twin": 2, "turn": 2}.get(self.rows[at][0], len(brings))
        return "high" if len(stack) - len(takes) + more > 8 else ""

    def catch(self, at):
        if self.rows[at][0] in ("part", "new", "call", "hail", "throw"):
            for first, end, row in self.catches:
                if first <= at < end:
                    return row
        return None

    def behind(self, at):
        """The rows that may come behind a row."""
        word = self.rows[at][0]
        found = [] if word in ("jump", "give", "throw") else [at + 1]
        if word in ("jump", "nought"):
            found.append(self.rows[at][1])
        return found + ([] if self.catch(at) is None else [self.catch(at)])

    def leads(self, stand):
        if self.wrong(stand):
            return []
        at, boxes, stack = stand
        word = self.rows[at][0]
        takes, brings = self.takes_of(self.rows[at])
        beneath, taken = stack[:len(stack) - len(takes)], stack[len(stack) - len(takes):]
        then = beneath + tuple(self.mark(told) for told in brings)
        then_boxes = boxes
        if word == "get":
            then = stack + (boxes[self.rows[at][1]],)
        elif word == "twin":
            then = stack + taken
        elif word == "turn":
            then = beneath + (taken[1], taken[0])
        elif word == "put":
            then_boxes = tuple(taken[0] if b == self.rows[at][1] else mark for b, mark in enumerate(boxes))
        found = []
        if word not in ("give", "throw", "jump"):
            found.append((at + 1, then_boxes, then))
        if word in ("jump", "nought"):
            found.append((self.rows[at][1], then_boxes, then))
        if self.catch(at) is not None:
            found.append((self.catch(at), boxes, ("num",)))
        return found

    def reached(self, stand, most):
        """The stands that can be come to, each with a shortest road to it; None where there are too many."""
        found = {stand: [stand[0]]}
        todo = [stand]
        for one in todo:
            for other in self.leads(one):
                if other not in found:
                    found[other] = found[one] + [other[0]]
                    todo.append(other)
            if len(todo) > most:
                return None
        return found

    def live(self, at):
        """The boxes that are live at a row, each looked for by itself."""
        return [box for box in range(8) if self.is_live(box, at)]

    def is_live(self, box, at):
        seen, todo = set(), [at]
        while todo:
            row = todo.pop()
            if row in seen or row >= len(self.rows):
                continue
            seen.add(row)
            if self.rows[row] == ("get", box):
                return True
            if self.rows[row] != ("put", box):
                todo += self.behind(row)
        return False

    def blocks(self):
        """Row 0 and the entries that can be come to from it."""
        seen, todo = {0}, [0]
        while todo:
            for row in self.behind(todo.pop()):
                if row not in seen and row < len(self.rows):
                    seen.add(row)
                    todo.append(row)
        return sorted({0} | (seen & {row for row, _ in self.entries}))


def covers(mark, other):
    if mark == "any" or mark == other:
        return True
    return isinstance(mark, tuple) and isinstance(other, tuple) and set(mark) <= set(other)


def stand_covers(stand, other):
    if stand[0] != other[0] or len(stand[2]) != len(other[2]):
        return False
    return all(covers(*pair) for pair in zip(stand[1] + stand[2], other[1] + other[2]))


def common(marks):
    """What all of some marks have in common."""
    if len(set(marks)) == 1:
        return marks[0]
    if all(isinstance(mark, tuple) for mark in marks):
        return tuple(sorted(set(marks[0]).intersection(*marks[1:])))
    return "any"


def paper_by_rules(body, found):
    """The least paper by all the stands that can be come to; None where one of them goes wrong."""
    if any(body.wrong(stand) for stand in found):
        return None
    paper = []
    for row, height in body.entries:
        those = [stand[1] + stand[2] for stand in found if stand[0] == row]
        if those:
            marks = tuple(common(list(column)) for column in zip(*those))
            paper.append((row, marks[:8], marks[8:]))
    return paper


def paper_holds_by_rules(body, stand, paper):
    rows = [one[0] for one in paper]
    heights = dict(body.entries)
    if rows != sorted(set(rows)) or any(row not in heights for row in rows):
        return False
    for row, boxes, stack in paper:
        if len(boxes) != 8 or len(stack) != heights[row]:
            return False
        for mark in boxes + stack:
            if isinstance(mark, str) and mark not in ("num", "any"):
                return False
            if isinstance(mark, tuple) and list(mark) != sorted(set(mark)):
                return False
            if isinstance(mark, tuple) and not all(
                    name[:1].isupper() and name.isascii() and name.isalnum() and len(name) < 13
                    and name[1:] == name[1:].lower() for name in mark):
                return False
    table = {one[0]: one for one in paper}
    todo, seen = [(stand, True)] + [(one, False) for one in paper], set()
    while todo:
        one, come_to = todo.pop()
        if come_to and one[0] in heights and (one[0] not in table or not stand_covers(table[one[0]], one)):
            return False
        if one in seen:
            continue
        seen.add(one)
        if body.wrong(one):
            return False
        for other in body.leads(one):
            if other[0] in heights:
                if other[0] not in table or not stand_covers(table[other[0]], other):
                    return False
            else:
                todo.append((other, True))
    return True


def road_holds_by_rules(body, stand, road):
    if not road or road[0] != stand[0]:
        return False
    here = {stand}
    for row in road[1:]:
        here = {other for one in here for other in body.leads(one) if other[0] == row}
    return any(body.wrong(one) for one in here)
