"""The careful and the quick machine: row by row."""

from strangemill.acts import act
from strangemill.reckoning import reckoned
from strangemill.rows import DEEDS, QUIET, SHUFFLES, shuffle, taken
from strangemill.stands import word_due


def do_row(state, frame):
    """Does the row of the top frame."""
    if state.mode == "careful":
        word = word_of_frame(state, frame)
        if word != "":
            state.end(("wrong", word, frame.sheet.kind, frame.sheet.way[0], frame.row))
            return
    row = frame.sheet.rows[frame.row]
    if row[0] in SHUFFLES:
        shuffle(row, frame.boxes, frame.stack)
        frame.pass_on()
        return
    values = taken(frame.stack, len(frame.sheet.deed(frame.row).wants))
    if row[0] in DEEDS:
        act(state, frame, row, values)
    elif row[0] in QUIET:
        frame.bring(reckoned(row[0], values[0], values[1]))
    elif row[0] == "num":
        frame.bring(row[1])
    elif row[0] == "give":
        state.give(values[0])
    elif row[0] == "throw":
        state.fault(values[0])
    elif row[0] == "nought" and values[0] != 0:
        frame.pass_on()
    elif row[1] > frame.row or state.event():
        frame.come_to(row[1])


def word_of_frame(state, frame):
    """The first word by which the frame goes wrong as it stands, or the text without signs."""
    # The boxes want nothing, so none are told.
    marks = tuple([state.mark(frame.sheet, value) for value in frame.stack])
    return word_due(frame.sheet, (frame.row, (), marks))
