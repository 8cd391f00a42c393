"""The desk: a house of texts, and the runs in it."""

from strangemill.errors import NoName, NoStep, Stands, Taken
from strangemill.house import House
from strangemill.runs import Run
from strangemill.sheets import Sheet
from strangemill.stands import ends_of, first_stand, shortest_road, word_due
from strangemill.texts import read_unit, written


class Desk:
    """A desk, at first without units and runs."""

    def __init__(self):
        # The houses that there were, the present one last.
        self._houses = [House([])]
        self._runs = {}

    def change(self, texts, *, out=()):
        """Changes the house by the units of the texts, and by names that go out."""
        units = [read_unit(text) for text in texts]
        self._houses.append(self.house().changed(units, out=out))

    def undo(self):
        """Goes back to the house ahead of the last change."""
        if len(self._houses) == 1:
            raise NoStep()
        self._houses.pop()

    def neat(self):
        """The texts of the units, by the order of names."""
        return [written(unit) for unit in self.house().units()]

    def house(self):
        """The present house."""
        return self._houses[-1]

    def verdict(self, kind, way):
        """Whether the way is let by, and else a road on which it goes wrong."""
        sheet = Sheet(self.house(), self.house().body(kind, way))
        stand = first_stand(sheet)
        road = shortest_road(sheet, stand)
        if road is None:
            return "let by"
        words = [word_due(sheet, one) for one in ends_of(sheet, stand, road)]
        rows = " ".join([str(row) for row in road])
        return f"wrong at {rows}: {max(words)}"

    def start(self, name, kind, way, numbers=()):
        """Begins a run that is kept by that name."""
        if name in self._runs:
            raise Taken(name)
        self._runs[name] = Run(self.house(), kind, way, numbers, machine="planned")
        return self._runs[name].go()

    def answer(self, name, number):
        """Answers the ask of a run."""
        return self._run(name).answer(number)

    def where(self, name):
        """Where a run stands."""
        return self._run(name).go()

    def frames(self, name):
        """The frames of a run."""
        return self._run(name).frames()

    def kept(self):
        """The names by which runs are kept, sorted."""
        return sorted(self._runs)

    def drop(self, name):
        """Lets a run go."""
        self._run(name)
        del self._runs[name]

    def renew(self):
        """Gives each run that stands at an ask the present house; tells what came of it."""
        told = []
        for name in self.kept():
            run = self._runs[name]
            if run.go() == ("ask",):
                told.append((name, renewal(run, self.house())))
        return told

    def _run(self, name):
        """The run that is kept by that name."""
        if name not in self._runs:
            raise NoName(name)
        return self._runs[name]


def renewal(run, house):
    """Gives a run a house; tells what came of it."""
    if run.house() == house:
        return "same"
    units = house.units()
    names = [unit[1] for unit in units]
    try:
        run.exchange(units, out=[unit[1] for unit in run.house().units() if unit[1] not in names])
    except Stands as bar:
        return bar.what
    return "newer"
