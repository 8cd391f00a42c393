"""The planned machine: step by step of plans."""

from strangemill.acts import act
from strangemill.blocks import SEEN
from strangemill.reckoning import reckoned
from strangemill.rows import QUIET


def do_set(state, frame, step):
    """Lets a register hold the value of a source."""
    frame.registers[step[1]] = frame.worth(step[2], None)
    frame.step += 1


def do_deed(state, frame, step):
    """Does a quiet row or a deed."""
    frame.row = step[1]
    row = frame.sheet.rows[frame.row]
    values = [frame.worth(source, None) for source in step[2]]
    if row[0] in QUIET:
        frame.bring(reckoned(row[0], values[0], values[1]))
        return
    if row[0] in SEEN:
        frame.show(step[5])
    act(state, frame, row, values)


def do_nought(state, frame, step):
    """Goes to a block where a number is 0."""
    if frame.worth(step[1], None) == 0:
        leave(state, frame, step[2], step[3])
    else:
        frame.step += 1


def do_to(state, frame, step):
    """Goes to a block."""
    leave(state, frame, step[1], step[2])


def leave(state, frame, entry, moves):
    """Goes to the block of an entry; where this is not behind the own one that is an event."""
    if entry > frame.block or state.event():
        frame.go_to(entry, moves, None)


def do_give(state, frame, step):
    """Gives."""
    state.give(frame.worth(step[1], None))


def do_throw(state, frame, step):
    """Faults, at the row by which the block ends."""
    number = frame.worth(step[1], None)
    frame.row = frame.block
    while frame.sheet.rows[frame.row][0] != "throw":
        frame.row += 1
    state.fault(number)


STEPS = {"set": do_set, "do": do_deed, "nought": do_nought, "to": do_to, "give": do_give, "throw": do_throw}


def do_step(state, frame):
    """Does the next step of the top frame."""
    step = frame.step_here()
    action = STEPS[step[0]]
    action(state, frame, step)
