"""How a run is given another house."""

from strangemill.deeds import has_unit, sort_of
from strangemill.errors import Stands
from strangemill.scene import Scene
from strangemill.sheets import Sheet
from strangemill.stands import shortest_road
from strangemill.state import Thing


def exchange_house(state, units, out):
    """Gives a run that stands at an ask the house that is its own one changed; else refuses it."""
    newer = state.scene.home.changed(units, out=out)
    numbers = state.numbers_kept([])
    for number in numbers:
        field = barred_field(state, newer, state.things[number])
        if field is not None:
            raise Stands("thing", number, field)
    sheets = [Sheet(newer, (frame.sheet.kind, frame.sheet.way)) for frame in state.standing]
    for depth in range(len(sheets)):
        road = frame_road(state, sheets, depth)
        if road is not None:
            raise Stands("frame", depth, road)
    tell_editions(state, units)
    state.scene = Scene(newer)
    state.things = {number: renewed(newer, state.things[number]) for number in numbers}
    for frame, sheet in zip(state.standing, sheets):
        frame.sheet = sheet
        frame.follow(state.scene.plan_for(sheet) if state.mode == "planned" else None)


def barred_field(state, newer, thing):
    """The field by which a thing can't stand in the newer house, or the text without signs; None where it can."""
    if sort_of(newer, thing.kind) != "kind":
        return ""
    for name, sort in newer.fields(thing.kind):
        # A field that comes holds 0 at first.
        if not may_hold(state, newer, thing.held.get(name, 0), sort):
            return name
    return None


def may_hold(state, newer, value, sort):
    """True where a field of that type may hold the value in the newer house."""
    if not isinstance(value, tuple):
        return sort == "num"
    if sort == "num":
        return False
    kind = state.thing_of(value).kind
    return sort_of(newer, kind) == "kind" and newer.fits(kind, sort)


def frame_road(state, sheets, depth):
    """A shortest road from where a frame stands, by the sheets of the newer house; None where there is none."""
    frame, sheet = state.standing[depth], sheets[depth]
    live = sheet.live(frame.row)
    boxes = tuple([state.mark(sheet, value) if box in live else "any" for box, value in enumerate(frame.boxes)])
    stack = tuple([state.mark(sheet, value) for value in frame.stack])
    if depth + 1 == len(sheets):
        return shortest_road(sheet, (frame.row, boxes, stack))
    stands = []
    gives = sheets[depth + 1].way[2]
    if gives == "num" or has_unit(sheet.home, gives):
        stands.append((frame.row + 1, boxes, stack + (sheet.mark(gives),)))
    row = sheet.fault_row(frame.row)
    if row is not None:
        stands.append((row, boxes, ("num",)))
    roads = [shortest_road(sheet, stand) for stand in stands]
    found = [[frame.row] + road for road in roads if road is not None]
    return min(found, key=len) if found else None


def tell_editions(state, units):
    """Gives the units that come, or change, an edition above all that their names had."""
    home = state.scene.home
    for unit in units:
        name = unit[1]
        if not has_unit(home, name) or home.unit_of(name) != unit:
            state.editions[name] = state.editions.get(name, -1) + 1


def renewed(newer, thing):
    """The thing with the fields that it has in the newer house."""
    return Thing(thing.kind, {name: thing.held.get(name, 0) for name, _ in newer.fields(thing.kind)})
