"""The second look: whether a plan, whoever wrote it, holds."""

from strangemill.blocks import FAULT, points_of, seen_places, term_at
from strangemill.bounds import REGISTERS
from strangemill.names import is_number, is_whole, is_within
from strangemill.sheets import Sheet
from strangemill.stands import is_let_by


def plan_holds(house, kind, way, plan):
    """True where the list of blocks is a plan that holds of the way of that name in a kind."""
    sheet = Sheet(house, house.body(kind, way))
    if not is_let_by(sheet) or not are_blocks(sheet, plan):
        return False
    maps = {block[0]: block[1] for block in plan}
    return all([steps_hold(BlockLook(sheet, maps, block[0]), block[2]) for block in plan])


def are_blocks(sheet, plan):
    """True where there is just a block for each entry that needs one, each with a right map and a list of steps."""
    entries = sheet.blocks()
    if not isinstance(plan, list) or len(plan) != len(entries):
        return False
    return all([is_block(sheet, entry, block) for entry, block in zip(entries, plan)])


def is_block(sheet, entry, block):
    """True for a block of that entry, whatever its steps are."""
    if not is_tuple(block, 3) or not is_whole(block[0]) or block[0] != entry:
        return False
    places = [("box", box) for box in sheet.live(entry)] + [("stack", at) for at in range(sheet.height(entry))]
    return isinstance(block[2], list) and are_pairs(block[1]) and are_places(block[1], places) and are_unlike(
        [number for place, number in block[1]]
    )


def is_tuple(thing, many):
    """True for a tuple of so many parts."""
    return isinstance(thing, tuple) and len(thing) == many


def are_pairs(thing):
    """True for a list of pairs."""
    return isinstance(thing, list) and all([is_tuple(pair, 2) for pair in thing])


def are_places(pairs, places):
    """True where the pairs begin with just these places, in their order."""
    return len(pairs) == len(places) and all([is_place(pair[0], place) for pair, place in zip(pairs, places)])


def is_place(thing, place):
    """True for that place."""
    return is_tuple(thing, 2) and is_whole(thing[1]) and thing == place


def are_unlike(numbers):
    """True for unlike numbers of registers."""
    return all([is_within(number, 0, REGISTERS - 1) for number in numbers]) and len(set(numbers)) == len(numbers)


class BlockLook:
    """A block while its steps are looked at: the terms of its registers, and what is due."""

    def __init__(self, sheet, maps, entry):
        self.sheet = sheet
        self.maps = maps
        self.terms = {}
        for place, number in maps[entry]:
            self.terms[number] = ("in", *place)
        points = points_of(sheet, entry)
        self.quiet_points = {point.at: point for point in points if point.role == "quiet"}
        self.due = [point for point in points if point.role != "quiet"]
        self.passed = 0

    def next_due(self):
        """The deed, open nought or end that is due next; None behind the end."""
        return self.due[self.passed] if self.passed < len(self.due) else None

    def term(self, source):
        """The term of a source; None where it has none, or is none."""
        if is_tuple(source, 2) and source[0] == "reg" and is_whole(source[1]):
            return self.terms.get(source[1])
        if is_tuple(source, 2) and source[0] == "num" and is_number(source[1]):
            return ("num", source[1])
        return None

    def have_terms(self, sources, terms):
        """True for a list of sources that have just these terms."""
        if not isinstance(sources, list) or len(sources) != len(terms):
            return False
        return all([self.term(source) == term for source, term in zip(sources, terms)])

    def moves_fit(self, moves, entry, boxes, stack):
        """True where the moves fit an entry, when that lies in the boxes and on the stack."""
        if not are_pairs(moves) or not are_unlike([pair[0] for pair in moves]):
            return False
        # The number of the fault has a term only where it lies on the stack.
        moved = {}
        for number, source in moves:
            moved[number] = FAULT if FAULT in stack and is_fault(source) else self.term(source)
        if None in list(moved.values()):
            return False
        for place, number in self.maps[entry]:
            if moved.get(number, self.terms.get(number)) != term_at(place, boxes, stack):
                return False
        return True

    def fault_moves_fit(self, moves, point):
        """True where the moves are those of a row that may fault with a catch, or none where none are due."""
        row = self.sheet.fault_row(point.at)
        return moves == [] if row is None else self.moves_fit(moves, row, point.boxes, [FAULT])

    def is_seen(self, seen, point):
        """True where it is told just what lies in the places of which it is to be told."""
        places = seen_places(self.sheet, point)
        if not are_pairs(seen) or not are_places(seen, places):
            return False
        terms = [term_at(place, point.boxes, point.stack) for place in places]
        return self.have_terms([source for place, source in seen], terms)


def is_fault(source):
    """True for the source that is the number of a fault."""
    return is_tuple(source, 1) and source[0] == "fault"


def steps_hold(look, steps):
    """True where the steps are those of the block, each one right."""
    for step in steps:
        if not step_holds(look, step):
            return False
    return look.next_due() is None


def step_holds(look, step):
    """True for a right step ahead of the end, or for the end itself; notes what it does."""
    point = look.next_due()
    if point is None or not isinstance(step, tuple) or len(step) == 0:
        return False
    if step[0] == "set":
        return set_holds(look, step)
    if step[0] == "do":
        return do_holds(look, step, point)
    # A deed is done by a do alone, whatever step has the word of its role.
    if point.role == "deed" or step[0] != point.role or not end_holds(look, step, point):
        return False
    look.passed += 1
    return True


def set_holds(look, step):
    """True for a right set."""
    if not is_tuple(step, 3) or not is_within(step[1], 0, REGISTERS - 1):
        return False
    term = look.term(step[2])
    look.terms[step[1]] = term
    return term is not None


def do_holds(look, step, point):
    """True for a right do, of a quiet row or of the deed that is due."""
    if not is_tuple(step, 6) or not is_whole(step[1]):
        return False
    _, at, sources, number, moves, seen = step
    if at in look.quiet_points:
        point = look.quiet_points[at]
        holds = moves == [] and seen == []
    else:
        holds = point.role == "deed" and at == point.at and (
            look.fault_moves_fit(moves, point) and look.is_seen(seen, point)
        )
        look.passed += 1
    if not holds or not look.have_terms(sources, point.takings):
        return False
    if point.brings is None:
        return number is None
    if not is_within(number, 0, REGISTERS - 1):
        return False
    look.terms[number] = point.brings
    return True


def end_holds(look, step, point):
    """True for a right open nought, to, give or throw."""
    if point.role == "to":
        return is_tuple(step, 3) and goal_holds(look, step[1], step[2], point)
    if len(step) < 2 or not look.have_terms([step[1]], point.takings):
        return False
    if point.role == "nought":
        return len(step) == 4 and goal_holds(look, step[2], step[3], point)
    if point.role == "give":
        return len(step) == 2
    return len(step) == 3 and look.fault_moves_fit(step[2], point)


def goal_holds(look, entry, moves, point):
    """True where a step leads to the entry to which it is to lead, with moves that fit it."""
    return is_whole(entry) and entry == point.goal and look.moves_fit(moves, entry, point.boxes, point.stack)
