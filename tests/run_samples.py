"""Houses and runs for the tests of runs."""

from samples import kind, way
from strangemill.house import House
from strangemill.runs import Run

MACHINES = ("careful", "quick", "planned")


def house_of(*rows, entries=(), catches=(), takes=(), gives="num", fields=(), ways=(), others=()):
    """A house in which the kind Main has a way of these rows, and which other ways and units one wants."""
    main = way("go", takes, gives, rows, entries, catches)
    return House([kind("Main", fields=fields, ways=(main,) + ways)] + list(others))


def run_of(*rows, numbers=(), machine="careful", room=200, most=400, free=False, plans=(), **parts):
    """A run of that way."""
    house = house_of(*rows, takes=("num",) * len(numbers), **parts)
    return Run(house, "Main", "go", numbers, machine=machine, room=room, most=most, free=free, plans=plans)


def end_of(*rows, answers=(), **parts):
    """How a run of that way ends, on each machine alike; with what was said, and the numbers of events and things."""
    told = []
    for machine in MACHINES:
        run = run_of(*rows, machine=machine, **parts)
        run.go()
        for number in answers:
            run.answer(number)
        told.append((run.go(), run.said(), run.events(), run.made()))
    assert told[0] == told[1] == told[2], told
    return told[0]
