"""[4], [27] to [44] by chance: runs on each machine, against the rules told once more."""

import unittest

from look_rules import Body, road_holds_by_rules
from plan_chance import other_plan
from refusals import refusal
from run_rules import Reference, told_of
from run_samples import MACHINES
from strangemill.errors import NoRun, Stands
from strangemill.planlook import plan_holds
from strangemill.plans import plan_of
from strangemill.runs import Run
from way_chance import Houses, bodies_of

NUMBERS = (0, 0, 1, 2, 5, -1, -3, 10 ** 13, -10 ** 12 - 1)


def altered(houses, house):
    """Units, and names that go out, for an exchange."""
    news = []
    for unit in house.units():
        if not houses.chance(0.5):
            continue
        sort = houses.random.randint(0, 7)
        if unit[0] == "face":
            unit = unit[:2] + (unit[2][1:] if sort < 4 and len(unit[2]) > 1 else unit[2],)
        elif sort == 0:
            unit = unit[:5] + (tuple(houses.way(house, unit[1], way) for way in unit[5]),)
        elif sort == 1 and len(unit[4]) < 6:
            unit = unit[:4] + (unit[4] + ((houses.one("xyz"), houses.one(("num", "num", "num", "A"))),),) + unit[5:]
        elif sort == 2:
            unit = unit[:4] + (unit[4][1:],) + unit[5:]
        elif sort == 3:
            unit = unit[:4] + (tuple((name, houses.one((told, "num", "B", "F"))) for name, told in unit[4]),) + unit[5:]
        elif sort == 4:
            unit = unit[:3] + (unit[3][1:],) + unit[4:]
        elif sort == 5:
            unit = unit[:4] + (unit[4][::-1],) + unit[5:]
        elif sort == 6:
            unit = unit[:5] + (unit[5][1:],)
        news.append(unit)
    names = [unit[1] for unit in news]
    return news, tuple(unit[1] for unit in house.units() if unit[1] not in names and houses.chance(0.08))


class Runs(unittest.TestCase):

    def setUp(self):
        self.counts = {}

    def count(self, what):
        self.counts[what] = self.counts.get(what, 0) + 1

    def each(self, first, last):
        """What a run is begun with: houses by chance, a house, a kind, a way's name, and what is named."""
        for seed in range(first, last):
            houses = Houses(seed, rash=(0, 0, 0.3)[seed % 3], most_rows=(12, 24, 36)[seed % 2])
            house = houses.house()
            for kind_name, way in bodies_of(house):
                numbers = tuple(houses.one(NUMBERS) for _ in way[1])
                yield houses, house, (kind_name, way[0], numbers), {
                    "room": houses.one((1, 2, 3, 5, 8, 200)), "most": houses.one((1, 2, 5, 20, 60, 400))}

    def begun(self, *told, **named):
        try:
            return Run(*told, **named)
        except NoRun as error:
            self.count(error.word)
            return None

    def handed(self, houses, house):
        """Plans that hold, for some of the ways, written otherwise than told; for some of these ways several, mixed."""
        plans = []
        for kind_name, way in bodies_of(house):
            plan = plan_of(house, kind_name, way[0])
            if plan is not None and houses.chance(0.4):
                many = houses.one((1, 1, 2, 3))
                if many > 1:
                    self.count("several")
                for _ in range(many):
                    plan = other_plan(houses.random, house, kind_name, way[0], plan, plan_holds)
                    plans.append((kind_name, way[0], plan))
        houses.random.shuffle(plans)
        return plans

    def test_runs_on_each_machine_with_exchanges(self):
        for houses, house, told, named in self.each(0, 110):
            runs = [self.begun(house, *told, **named)]
            if runs[0] is None:
                continue
            plans = self.handed(houses, house)
            runs += [Run(house, *told, machine=machine, plans=plans, **named) for machine in ("quick", "planned", "planned")]
            reference = Reference(house, *told, named["room"], named["most"], False)
            self.assertEqual([(run.frames(), run.kept()) for run in runs], [(reference.frames(), reference.kept())] * 4)
            reference.go()
            for _ in range(40):
                self.all_tell(runs, reference)
                if reference.told() != ("ask",):
                    break
                self.move(houses, runs)
                if houses.chance(0.6):
                    self.exchange(houses, runs, reference)
                number = houses.one(NUMBERS)
                reference.answer(number)
                for run in runs:
                    run.answer(number)
            self.count(reference.told()[0])
        for what, least in {"gave": 30, "fault": 30, "long": 30, "barred": 5, "let in": 60, "frame": 10, "thing": 5, "deep": 20, "several": 30}.items():
            self.assertGreaterEqual(self.counts.get(what, 0), least, self.counts)

    def all_tell(self, runs, reference):
        wanted = reference.all_told()
        for run in runs:
            self.assertEqual(told_of(run), wanted)
        if len(wanted[4]) > 2:
            self.count("deep")

    def move(self, houses, runs):
        """Moves one of the runs to another machine, and lets a double go on in the place of another one."""
        runs[3].on(houses.one(MACHINES))
        if houses.chance(0.3):
            at = houses.random.randrange(4)
            held = runs[at]
            runs[at] = held.double()
            held.answer(77)

    def exchange(self, houses, runs, reference):
        home = reference.home
        news, out = altered(houses, home)
        wanted = refusal(reference.exchange, news, out)
        for run in runs:
            told = refusal(run.exchange, news, out=out)
            if wanted is not None and wanted[:2] == (Stands, "frame"):
                self.assertEqual((told[:3], len(told[3])), (wanted[:3], len(wanted[3])))
                self.road(home.changed(news, out=out), run, *told[2:])
            else:
                self.assertEqual(told, wanted)
            self.assertEqual(run.house(), reference.home)
            self.assertEqual({unit[1]: run.edition(unit[1]) for unit in run.house().units()},
                             {unit[1]: reference.editions[unit[1]] for unit in run.house().units()})
        self.all_tell(runs, reference)
        self.count("let in" if wanted is None else wanted[1])

    def road(self, newer, run, depth, road):
        """The road is one on which that very frame would go wrong."""
        frames = run.frames()
        bodies = [self.body(run, frame) for frame in frames]
        # Bodies that are not in the run's house any more are left out here.
        if None in bodies[depth:depth + 2]:
            return
        row, boxes, stack = frames[depth][3:]
        body = Body(newer, bodies[depth])

        def mark(value):
            if isinstance(value, tuple):
                return tuple(newer.names(run.thing(value[1])[0]))
            return "num" if isinstance(value, int) else "any"

        self.assertEqual(road[0], row)
        marks, beneath = tuple(mark(value) for value in boxes), tuple(mark(value) for value in stack)
        stands = [(row, marks, beneath)]
        if depth + 1 < len(frames):
            gives = bodies[depth + 1][1][2]
            road = road[1:]
            stands = [(row + 1, marks, beneath + (body.mark(gives),)), (body.catch(row), marks, ("num",))]
        self.assertTrue(any(stand[0] is not None and road_holds_by_rules(body, stand, road) for stand in stands))

    def body(self, run, frame):
        kind_name, name, edition = frame[:3]
        units = {unit[1]: unit for unit in run.house().units()}
        if kind_name not in units or run.edition(kind_name) != edition:
            return None
        return (kind_name, [way for way in units[kind_name][5] if way[0] == name][0])

    def test_free_runs(self):
        for houses, house, told, named in self.each(500, 640):
            run = self.begun(house, *told, free=True, **named)
            if run is None:
                continue
            reference = Reference(house, *told, named["room"], named["most"], True)
            reference.go()
            for _ in range(30):
                self.all_tell([run], reference)
                if reference.told() != ("ask",):
                    break
                number = houses.one(NUMBERS)
                self.assertEqual(run.answer(number), reference.answer(number))
            self.count(reference.told()[0])
        for what in ("gave", "fault", "long", "wrong"):
            self.assertGreaterEqual(self.counts.get(what, 0), 10, self.counts)


if __name__ == "__main__":
    unittest.main()
