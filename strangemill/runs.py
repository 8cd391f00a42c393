"""Runs."""

from strangemill.bounds import BOXES, MOST, ROOM
from strangemill.errors import NoAsk, NoRun, NoThing
from strangemill.exchanging import exchange_house
from strangemill.planning import do_step
from strangemill.reckoning import brought_in
from strangemill.rowing import do_row
from strangemill.starting import started


class Run:
    """A run of a way of a kind; where none can be it is refused with NoRun or BadPlan."""

    def __init__(self, house, kind, way, numbers=(), *, machine="careful", room=ROOM, most=MOST, free=False, plans=()):
        self._state = started(house, kind, way, numbers, machine, room, most, free, plans)
        # With these a run like this one is begun anew, which then is given another state.
        self._first = (house, kind, way, tuple(numbers))

    def go(self):
        """Goes on till the run stands at an ask or has ended; tells which."""
        state = self._state
        while not state.stands():
            frame = state.standing[-1]
            if frame.registers is None:
                do_row(state, frame)
            else:
                do_step(state, frame)
        return ("ask",) if state.is_asked else state.ending

    def answer(self, number):
        """Answers the ask at which the run stands, and goes on."""
        self._check_ask()
        state = self._state
        state.is_asked = False
        state.standing[-1].bring(brought_in(number))
        return self.go()

    def said(self):
        """The numbers that were said."""
        return list(self._state.spoken)

    def events(self):
        """How many events there were."""
        return self._state.done_events

    def made(self):
        """How many things were made."""
        return self._state.made_things

    def frames(self):
        """The frames, the first one first."""
        return [frame_told(frame) for frame in self._state.standing]

    def kept(self):
        """The numbers of the things that are kept, rising."""
        return self._state.numbers_kept([])

    def thing(self, number):
        """The kind and the values of a thing that is kept."""
        if number not in self.kept():
            raise NoThing(number)
        thing = self._state.things[number]
        return (thing.kind, tuple([thing.held[name] for name, _ in self.house().fields(thing.kind)]))

    def house(self):
        """The house in which the run goes on."""
        return self._state.scene.home

    def edition(self, name):
        """The edition of the unit of that name."""
        self.house().unit_of(name)
        return self._state.editions[name]

    def exchange(self, units, *, out=()):
        """Changes the house of the run, where nothing that stands could go wrong."""
        self._check_ask()
        if self._state.is_free:
            raise NoAsk()
        exchange_house(self._state, units, out)

    def machine(self):
        """The machine on which the run is."""
        return self._state.mode

    def on(self, machine):
        """Puts the run on a machine."""
        self._check_ask()
        state = self._state
        if state.is_free:
            raise NoRun("free")
        for frame in state.standing:
            if machine != "planned":
                frame.follow(None)
            elif frame.registers is None:
                frame.follow(state.scene.plan_for(frame.sheet))
        state.mode = machine

    def double(self):
        """Another run that stands as this one does."""
        house, kind, way, numbers = self._first
        other = Run(house, kind, way, numbers, free=self._state.is_free)
        other._state = self._state.doubled()
        return other

    def _check_ask(self):
        """Refuses what can be done at an ask alone."""
        if not self._state.is_asked:
            raise NoAsk()


def frame_told(frame):
    """What is told of a frame."""
    live = frame.sheet.live(frame.row)
    boxes = tuple([frame.boxes[box] if box in live else "-" for box in range(BOXES)])
    return (frame.sheet.kind, frame.sheet.way[0], frame.stamp, frame.row, boxes, tuple(frame.stack))
