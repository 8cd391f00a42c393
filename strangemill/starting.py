"""What bars a run from its beginning, and how it begins."""

from strangemill.errors import BadPlan, NoRun, NoUnit, NoWay
from strangemill.planlook import plan_holds
from strangemill.reckoning import brought_in
from strangemill.scene import Scene, own_body, plan_table
from strangemill.state import State


def check_start(house, kind, way, numbers):
    """Refuses with NoRun a kind, a way or numbers of which no run is."""
    try:
        fields = house.fields(kind)
    except NoUnit:
        raise NoRun("kind") from None
    if not all([sort == "num" for _, sort in fields]):
        raise NoRun("fields")
    try:
        takes, _ = house.signature(kind, way)
    except NoWay:
        raise NoRun("way") from None
    if len(takes) != len(numbers) or not all([sort == "num" for sort in takes]):
        raise NoRun("takes")


def check_let_by(scene, kind, way, machine, free):
    """Refuses with NoRun a free run on a machine that lets none be, and a run of a way that is not let by."""
    if free and machine != "careful":
        raise NoRun("free")
    if not free and not scene.lets_by(scene.sheet_of(kind, way)):
        raise NoRun("barred")


def handed_plans(house, plans):
    """The plans that are handed in, as tables, by the kind and the way's name; else BadPlan."""
    found = {}
    for kind, way, plan in plans:
        if own_body(house, kind, way) is None or not plan_holds(house, kind, way, plan):
            raise BadPlan(kind, way)
        # Of several for one body the last one stays: all of them hold, so by each the run tells the same.
        found[(kind, way)] = plan_table(plan)
    return found


def started(house, kind, way, numbers, machine, room, most, free, plans):
    """The state of a run that stands at row 0 of its first frame."""
    check_start(house, kind, way, numbers)
    scene = Scene(house)
    check_let_by(scene, kind, way, machine, free)
    scene.plans = handed_plans(house, plans)
    state = State(scene, room, most, free)
    state.mode = machine
    thing = state.make(kind, [0] * len(house.fields(kind)))
    state.begin(scene.sheet_of(kind, way), [thing] + [brought_in(number) for number in numbers])
    return state
