"""The lookers: whether a paper or a road, whoever wrote it, is one of a body."""

from strangemill.bounds import BOXES
from strangemill.marks import are_covered, is_mark
from strangemill.names import is_whole
from strangemill.sheets import Sheet
from strangemill.stands import ends_of, led_to, word_due


def paper_holds(house, body, stand, paper):
    """True where the list of stands is a paper of the body that holds from the stand."""
    sheet = Sheet(house, body)
    if not is_paper(sheet, paper):
        return False
    table = {one[0]: one for one in paper}
    return all([goes_by(sheet, table, one) for one in [stand, *paper]])


def is_paper(sheet, paper):
    """True for a list of stands at entries, their rows rising, of the entries' heights."""
    least = 0
    for row, boxes, stack in paper:
        if not is_whole(row) or row < least or row not in sheet.height_of:
            return False
        if len(boxes) != BOXES or len(stack) != sheet.height_of[row]:
            return False
        if not all([is_mark(mark) for mark in boxes + stack]):
            return False
        least = row + 1
    return True


def goes_by(sheet, table, stand):
    """True where going on from the stand nothing goes wrong up to the entries, and these are covered by the paper."""
    if not is_by(sheet, table, stand):
        return False
    todo = [stand]
    while todo:
        one = todo.pop()
        if word_due(sheet, one) != "":
            return False
        for other in led_to(sheet, one):
            if not is_by(sheet, table, other):
                return False
            if other[0] not in sheet.height_of:
                todo.append(other)
    return True


def is_by(sheet, table, stand):
    """True for a stand at no entry, and for one that the paper's stand of its row covers."""
    row, boxes, stack = stand
    if row not in sheet.height_of:
        return True
    return row in table and are_covered(table[row][1], boxes) and are_covered(table[row][2], stack)


def road_holds(house, body, stand, road):
    """True where the list of whole numbers is a road of the body from the stand."""
    if not all([is_whole(row) for row in road]):
        return False
    sheet = Sheet(house, body)
    return any([word_due(sheet, one) != "" for one in ends_of(sheet, stand, road)])
