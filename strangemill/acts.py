"""What the deeds do in a run, with the values that they take, whichever machine does them."""

from strangemill.bounds import FRAMES
from strangemill.reckoning import reckoned

EVENTS = ("ask", "say", "new", "call", "hail")


def act_ask(state, frame, row, values):
    """Stands there till the ask is answered."""
    state.is_asked = True


def act_say(state, frame, row, values):
    """Says a number."""
    state.spoken.append(values[0])
    frame.pass_on()


def act_part(state, frame, row, values):
    """Divides a number by another one."""
    if values[1] == 0:
        state.fault(1)
    else:
        frame.bring(reckoned("part", values[0], values[1]))


def act_fits(state, frame, row, values):
    """Tells whether a thing fits a name."""
    frame.bring(1 if row[1] in state.mark(frame.sheet, values[0]) else 0)


def act_new(state, frame, row, values):
    """Makes a thing, where there is room."""
    if len(state.numbers_kept(values)) >= state.room:
        state.fault(3)
    else:
        frame.bring(state.make(row[1], values))


def act_read(state, frame, row, values):
    """Reads a field."""
    frame.bring(state.thing_of(values[0]).held[row[2]])


def act_write(state, frame, row, values):
    """Writes a field."""
    state.thing_of(values[0]).held[row[2]] = values[1]
    frame.pass_on()


def act_call(state, frame, row, values):
    """Begins the way of the thing's own kind."""
    if len(state.standing) >= FRAMES:
        state.fault(2)
        return
    sheet = state.scene.sheet_of(state.thing_of(values[0]).kind, row[2])
    if state.is_free or state.scene.lets_by(sheet):
        state.begin(sheet, values)
    else:
        state.fault(4)


ACTS = {
    "ask": act_ask, "say": act_say, "part": act_part, "fits": act_fits, "new": act_new,
    "read": act_read, "write": act_write, "call": act_call, "hail": act_call,
}


def act(state, frame, row, values):
    """Does a deed, its event ahead of it."""
    if row[0] not in EVENTS or state.event():
        action = ACTS[row[0]]
        action(state, frame, row, values)
