"""The frames of a run."""

from strangemill.bounds import BOXES, REGISTERS


class Frame:
    """A frame of a body; it goes row by row, or by a plan while it has registers.

    The row, the boxes and the stack of a frame that goes by a plan are those at
    the last row at which they were to be told.
    """

    def __init__(self, sheet, stamp, values):
        self.sheet = sheet
        # The edition of the body's unit when the frame was begun.
        self.stamp = stamp
        self.row = 0
        self.boxes = values + [None] * (BOXES - len(values))
        self.stack = []
        self.plan = None
        self.registers = None
        self.block = 0
        self.step = 0

    def doubled(self):
        """Another frame that stands as this one does."""
        other = Frame(self.sheet, self.stamp, list(self.boxes))
        other.row = self.row
        other.stack = list(self.stack)
        other.plan = self.plan
        other.registers = None if self.registers is None else list(self.registers)
        other.block = self.block
        other.step = self.step
        return other

    def follow(self, plan):
        """Goes on row by row, up to the next entry where there is a plan."""
        self.plan = plan
        self.registers = None

    def come_to(self, row):
        """Comes to a row, going row by row; goes by the plan from there where it can."""
        self.row = row
        if self.plan is not None and row in self.plan:
            self.registers = [None] * REGISTERS
            for place, number in self.plan[row][0]:
                self.registers[number] = self.boxes[place[1]] if place[0] == "box" else self.stack[place[1]]
            self.block = row
            self.step = 0

    def go_to(self, entry, moves, fault):
        """Goes to the block of an entry, with these moves done."""
        values = [(number, self.worth(source, fault)) for number, source in moves]
        for number, value in values:
            self.registers[number] = value
        self.block = entry
        self.step = 0

    def worth(self, source, fault):
        """The value of a source; that of `fault` is the fault's number."""
        if source[0] == "reg":
            return self.registers[source[1]]
        return source[1] if source[0] == "num" else fault

    def step_here(self):
        """The step of the plan that is next, or at which the frame waits."""
        return self.plan[self.block][1][self.step]

    def show(self, seen):
        """Lays what is told into the boxes and onto the stack."""
        self.boxes = [None] * BOXES
        self.stack = []
        for place, source in seen:
            value = self.worth(source, None)
            if place[0] == "box":
                self.boxes[place[1]] = value
            else:
                self.stack.append(value)

    def bring(self, value):
        """Takes what its row brings, and goes on behind it."""
        if self.registers is None:
            self.stack.append(value)
        else:
            self.registers[self.step_here()[3]] = value
        self.pass_on()

    def pass_on(self):
        """Goes on behind its row."""
        if self.registers is None:
            self.come_to(self.row + 1)
        else:
            self.step += 1

    def land(self, fault, row):
        """Goes on where the catch leads that takes a fault of its row."""
        if self.registers is None:
            self.stack = [fault]
            self.come_to(row)
        else:
            step = self.step_here()
            self.go_to(row, step[4] if step[0] == "do" else step[2], fault)
