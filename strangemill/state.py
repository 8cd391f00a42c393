"""How a run stands.

A value is a number, ("thing", n) for the thing with the number n, or None for
nothing.
"""

from strangemill.frames import Frame


class Thing:
    """A thing: its kind, and the value of each field, by its name."""

    def __init__(self, kind, held):
        self.kind = kind
        self.held = held


class State:
    """All of a run that its steps work on."""

    def __init__(self, scene, room, most, is_free):
        self.scene = scene
        self.room = room
        self.most = most
        self.is_free = is_free
        self.mode = "careful"
        # The greatest edition that each name had: that of its unit, where it has one.
        self.editions = {unit[1]: 0 for unit in scene.home.units()}
        self.things = {}
        self.made_things = 0
        self.standing = []
        self.spoken = []
        self.done_events = 0
        self.is_asked = False
        # What is told of the end, once it has come.
        self.ending = None

    def doubled(self):
        """Another state like this one; what is found out of the house is found for both."""
        other = State(self.scene, self.room, self.most, self.is_free)
        other.mode = self.mode
        other.editions = dict(self.editions)
        other.things = {number: Thing(one.kind, dict(one.held)) for number, one in self.things.items()}
        other.made_things = self.made_things
        other.standing = [frame.doubled() for frame in self.standing]
        other.spoken = list(self.spoken)
        other.done_events = self.done_events
        other.is_asked = self.is_asked
        other.ending = self.ending
        return other

    def stands(self):
        """True where the run stands at an ask, or has ended."""
        return self.is_asked or self.ending is not None

    def make(self, kind, values):
        """A new thing of a kind, with these values in its fields."""
        self.made_things += 1
        names = [field[0] for field in self.scene.home.fields(kind)]
        self.things[self.made_things] = Thing(kind, dict(zip(names, values)))
        return ("thing", self.made_things)

    def thing_of(self, value):
        """The thing that a value is."""
        return self.things[value[1]]

    def mark(self, sheet, value):
        """What a value is, as a mark by a sheet."""
        if value is None:
            return "any"
        return sheet.mark(self.thing_of(value).kind) if isinstance(value, tuple) else "num"

    def numbers_kept(self, values):
        """The numbers of the things that are kept, rising, where these values are kept, too."""
        todo = list(values)
        if self.ending is not None and self.ending[0] == "gave":
            todo.append(self.ending[1])
        for frame in self.standing:
            todo += [frame.boxes[box] for box in frame.sheet.live(frame.row)] + frame.stack
        found = {}
        while todo:
            value = todo.pop()
            if isinstance(value, tuple) and value[1] not in found:
                found[value[1]] = True
                todo += list(self.thing_of(value).held.values())
        return sorted(found)

    def event(self):
        """Does an event; where no more may be done the run ends. Tells whether it was done."""
        if self.done_events == self.most:
            self.end(("long",))
            return False
        self.done_events += 1
        return True

    def end(self, told):
        """Ends the run."""
        self.standing = []
        self.ending = told

    def begin(self, sheet, values):
        """Begins a frame of a body, with these values in its boxes."""
        frame = Frame(sheet, self.editions[sheet.kind], values)
        self.standing.append(frame)
        if self.mode == "planned":
            frame.follow(self.scene.plan_for(sheet))
            frame.come_to(0)

    def give(self, value):
        """Ends the top frame by a value."""
        self.standing.pop()
        if self.standing:
            self.standing[-1].bring(value)
        else:
            self.end(("gave", value))

    def fault(self, number):
        """Lets the row of the top frame fault; the frames without a catch for it end."""
        while self.standing:
            frame = self.standing[-1]
            row = frame.sheet.fault_row(frame.row)
            if row is not None:
                if self.event():
                    frame.land(number, row)
                return
            self.standing.pop()
        self.end(("fault", number))
