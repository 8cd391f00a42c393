"""Stands of a body, looked at by its sheet: what goes wrong, where each leads, papers and roads."""

from strangemill.bounds import BOXES, STACK
from strangemill.marks import all_in_common
from strangemill.rows import SHUFFLES, shuffle, taken


def first_stand(sheet):
    """The stand at which the body begins."""
    marks = [sheet.mark(sort) for sort in (sheet.kind, *sheet.way[1])]
    return (0, tuple(marks + ["any"] * (BOXES - len(marks))), ())


def word_due(sheet, stand):
    """The first word by which the stand goes wrong, or the text without signs."""
    at, _, stack = stand
    if at == len(sheet.rows):
        return "off"
    if sheet.height_of.get(at, len(stack)) != len(stack):
        return "height"
    deed = sheet.deed(at)
    if deed is None:
        return "lack"
    beneath = len(stack) - len(deed.wants)
    if beneath < 0:
        return "low"
    for mark, want in reversed(list(zip(stack[beneath:], deed.wants))):
        word = mark_word(mark, want)
        if word != "":
            return word
    return "high" if beneath + deed.left > STACK else ""


def mark_word(mark, want):
    """The word that is due to a mark where that is wanted, or the text without signs."""
    # None stands for a mark that is left out of sight (see thinned).
    if want == "any" or mark is None:
        return ""
    if want == "num":
        return "" if mark == "num" else "num"
    if not isinstance(mark, tuple):
        return "thing"
    return "" if want == "thing" or want in mark else "fits"


def led_to(sheet, stand):
    """The stands to which the stand leads, in their order; none where it goes wrong."""
    if word_due(sheet, stand) != "":
        return []
    at, boxes, stack = stand
    row = sheet.rows[at]
    new_boxes, new_stack = list(boxes), list(stack)
    if row[0] in SHUFFLES:
        shuffle(row, new_boxes, new_stack)
    else:
        deed = sheet.deed(at)
        taken(new_stack, len(deed.wants))
        if deed.brings is not None:
            new_stack.append(sheet.mark(deed.brings))
    found = [(behind, tuple(new_boxes), tuple(new_stack)) for behind in sheet.deed_rows(at)]
    fault_row = sheet.fault_row(at)
    if fault_row is not None:
        found.append((fault_row, boxes, ("num",)))
    return found


def least_paper(sheet, stand):
    """For each entry that can be come to from the stand its widest stand, by its row; None where one goes wrong."""
    found = {}
    todo = [stand]
    while todo:
        one = todo.pop()
        if word_due(sheet, one) != "":
            return None
        row = one[0]
        if row in sheet.height_of:
            if row in found:
                one = widened(found[row], one)
                if one == found[row]:
                    continue
            # The wider stand goes wrong only where one of both does, as what is wanted is wanted of single marks.
            found[row] = one
        todo += led_to(sheet, one)
    return found


def widened(stand, other):
    """The narrowest stand that covers two of the same row and height."""
    row, boxes, stack = stand
    return (row, all_in_common(boxes, other[1]), all_in_common(stack, other[2]))


def is_let_by(sheet):
    """True where the body has a paper from its beginning."""
    return least_paper(sheet, first_stand(sheet)) is not None


def thinned(stand):
    """The stand with all of its marks out of sight, and with all but one, for each one that is in sight."""
    row, boxes, stack = stand
    marks = boxes + stack
    blank = (None,) * len(marks)
    found = [(row, blank[:BOXES], blank[BOXES:])]
    for place, mark in enumerate(marks):
        if mark is not None:
            alone = blank[:place] + (mark,) + blank[place + 1:]
            found.append((row, alone[:BOXES], alone[BOXES:]))
    return found


def shortest_road(sheet, stand):
    """A shortest road from the stand; None where there is none.

    What goes wrong hangs on the height of the stack or on the mark of one value.
    So one value is kept in sight at a time, wherever it goes, as the stands with
    all their marks would be far too many. A shortest road of such thinned stands
    is one of the stands themselves: one of these that goes wrong ahead of the end
    would have made a shorter one.
    """
    # A paper is soon found, and where there is one there is no road.
    if least_paper(sheet, stand) is not None:
        return None
    ahead = {}
    level = thinned(stand)
    for one in level:
        ahead[one] = None
    while level:
        further = []
        for one in level:
            if word_due(sheet, one) != "":
                return road_back(ahead, one)
            for other in led_to(sheet, one):
                for thin in thinned(other):
                    if thin not in ahead:
                        ahead[thin] = one
                        further.append(thin)
        level = further
    return None


def road_back(ahead, stand):
    """The rows of the stands, each with the one ahead of it, up to this one."""
    road = []
    while stand is not None:
        road.append(stand[0])
        stand = ahead[stand]
    road.reverse()
    return road


def ends_of(sheet, stand, road):
    """The unlike stands to which the rows of a road lead from the stand."""
    here = [stand] if road and road[0] == stand[0] else []
    for row in road[1:]:
        there = {}
        for one in here:
            for other in led_to(sheet, one):
                if other[0] == row:
                    there[other] = True
        here = list(there)
        if not here:
            break
    return here
