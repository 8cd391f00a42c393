"""The points [27] to [35] and [41] to [43] once more, for the careful machine, with things as objects."""

from look_rules import Body
from strangemill.errors import MillError, NoAsk, NoThing, Stands
from strangemill.look import paper_of, road_from

BRINGING = ("ask", "part", "fits", "new", "read", "call", "hail", "num", "plus", "minus", "times", "same")


def mill(number):
    while number < -1000000000000:
        number += max(1, (-number) // 2000000000000) * 2000000000000
    while number > 999999999999:
        number -= max(1, number // 2000000000000) * 2000000000000
    return number


class Object:

    def __init__(self, number, kind, names, values):
        self.number = number
        self.kind = kind
        self.values = dict(zip(names, values))


class Layer:

    def __init__(self, run, body, values):
        self.body, self.rules = body, Body(run.home, body)
        self.edition = run.editions[body[0]]
        self.row, self.boxes, self.stack = 0, list(values) + [None] * (8 - len(values)), []
        self.lives = {}

    def live(self):
        if self.row not in self.lives:
            self.lives[self.row] = self.rules.live(self.row)
        return self.lives[self.row]


class Reference:

    def __init__(self, house, kind, way, numbers, room, most, free):
        self.home, self.room, self.most, self.free = house, room, most, free
        self.editions = {unit[1]: 0 for unit in house.units()}
        self.count, self.spoken, self.done = 1, [], 0
        first = Object(1, kind, [name for name, _ in house.fields(kind)], [0] * 9)
        self.layers = []
        self.layers.append(Layer(self, house.body(kind, way), [first] + [mill(number) for number in numbers]))
        self.asking, self.end = False, None
        self.papers = {}

    # What is told.

    def tell(self, value):
        return ("thing", value.number) if isinstance(value, Object) else value

    def frames(self):
        return [(one.body[0], one.body[1][0], one.edition, one.row,
                 tuple(self.tell(value) if box in one.live() else "-" for box, value in enumerate(one.boxes)),
                 tuple(self.tell(value) for value in one.stack)) for one in self.layers]

    def objects(self, more=()):
        todo = list(more)
        for one in self.layers:
            todo += [one.boxes[box] for box in one.live()] + one.stack
        if self.end and self.end[0] == "gave":
            todo.append(self.end[1])
        found = []
        for value in todo:
            if isinstance(value, Object) and value not in found:
                found.append(value)
                todo += value.values.values()
        return sorted(found, key=lambda value: value.number)

    def kept(self):
        return [one.number for one in self.objects()]

    def thing(self, number):
        for one in self.objects():
            if one.number == number:
                return (one.kind, tuple(self.tell(one.values[name]) for name, _ in self.home.fields(one.kind)))
        raise NoThing(number)

    def told(self):
        if self.asking:
            return ("ask",)
        return tuple(self.tell(value) for value in self.end)

    def all_told(self):
        return (self.told(), self.spoken, self.done, self.count, self.frames(), self.kept(),
                [self.thing(number) for number in self.kept()])

    # What is done.

    def go(self):
        while not self.asking and not self.end:
            self.step()
        return self.told()

    def answer(self, number):
        self.asking = False
        self.layers[-1].stack.append(mill(number))
        self.layers[-1].row += 1
        return self.go()

    def event(self):
        if self.done >= self.most:
            self.stop(("long",))
            return False
        self.done += 1
        return True

    def stop(self, told):
        self.end, self.layers = told, []

    def lets_by(self, kind, way):
        if (kind, way) not in self.papers:
            self.papers[kind, way] = paper_of(self.home, kind, way) is not None
        return self.papers[kind, way]

    def mark(self, value, house=None):
        if value is None:
            return "any"
        return tuple((house or self.home).names(value.kind)) if isinstance(value, Object) else "num"

    def fault(self, number):
        while self.layers:
            top = self.layers[-1]
            at = top.rules.catch(top.row)
            if at is not None:
                if self.event():
                    top.row, top.stack = at, [number]
                return
            self.layers.pop()
        self.stop(("fault", number))

    def step(self):
        top = self.layers[-1]
        word = top.rules.wrong((top.row, ("any",) * 8, tuple(self.mark(value) for value in top.stack)))
        if word:
            return self.stop(("wrong", word, top.body[0], top.body[1][0], top.row))
        row = top.rules.rows[top.row]
        many = len(top.rules.takes_of(row)[0])
        values = top.stack[len(top.stack) - many:]
        word = row[0]
        if word in ("ask", "say", "call", "hail", "new") and not self.event():
            return None
        if word == "jump" or word == "nought" and values == [0]:
            if row[1] <= top.row and not self.event():
                return None
        fault = self.fault_of(row, values)
        if fault is not None:
            return self.fault(fault)
        top.stack = top.stack[:len(top.stack) - many]
        if word == "ask":
            self.asking = True
            return None
        if word == "give":
            return self.give(values[0])
        if word in ("call", "hail"):
            self.layers.append(Layer(self, self.home.body(values[0].kind, row[2]), values))
            return None
        self.work(top, row, values)
        if word == "jump" or word == "nought" and values == [0]:
            top.row = row[1]
        else:
            top.row += 1
        return None

    def fault_of(self, row, values):
        if row[0] == "throw":
            return values[0]
        if row[0] == "part" and values[1] == 0:
            return 1
        if row[0] in ("call", "hail"):
            if len(self.layers) >= 30:
                return 2
            if not self.free and not self.lets_by(self.home.body(values[0].kind, row[2])[0], row[2]):
                return 4
        if row[0] == "new" and len(self.objects()) >= self.room:
            return 3
        return None

    def give(self, value):
        self.layers.pop()
        if not self.layers:
            return self.stop(("gave", value))
        self.layers[-1].stack.append(value)
        self.layers[-1].row += 1
        return None

    def work(self, top, row, values):
        word = row[0]
        if word == "num":
            top.stack.append(row[1])
        elif word == "say":
            self.spoken.append(values[0])
        elif word == "get":
            top.stack.append(top.boxes[row[1]])
        elif word == "put":
            top.boxes[row[1]] = values[0]
        elif word == "twin":
            top.stack += values * 2
        elif word == "turn":
            top.stack += values[::-1]
        elif word in ("plus", "minus", "times", "part"):
            first, second = values
            told = {"plus": first + second, "minus": first - second, "times": first * second}
            if word == "part":
                told["part"] = (first - first % second) // second
            top.stack.append(mill(told[word]))
        elif word == "same":
            top.stack.append(int(values[0] is values[1]))
        elif word == "fits":
            top.stack.append(int(self.home.fits(values[0].kind, row[1])))
        elif word == "new":
            self.count += 1
            top.stack.append(Object(self.count, row[1], [name for name, _ in self.home.fields(row[1])], values))
        elif word == "read":
            top.stack.append(values[0].values[row[2]])
        elif word == "write":
            values[0].values[row[2]] = values[1]

    # Exchange.

    def exchange(self, units, out):
        """Exchanges; where a frame bars it the road is one of the shortest."""
        if not self.asking or self.free:
            raise NoAsk()
        newer = self.home.changed(units, out=out)
        self.check_things(newer)
        for depth in range(len(self.layers)):
            road = self.road(newer, depth)
            if road is not None:
                raise Stands("frame", depth, road)
        for unit in units:
            if unit not in self.home.units():
                self.editions[unit[1]] = self.editions.get(unit[1], -1) + 1
        for one in self.objects():
            one.values = {name: one.values.get(name, 0) for name, _ in newer.fields(one.kind)}
        self.home, self.papers = newer, {}
        for one in self.layers:
            one.rules = Body(newer, one.body)

    def check_things(self, newer):
        kinds = [unit[1] for unit in newer.units() if unit[0] == "kind"]
        for one in self.objects():
            if one.kind not in kinds:
                raise Stands("thing", one.number, "")
            for name, sort in newer.fields(one.kind):
                value = one.values.get(name, 0)
                if sort == "num":
                    stands = isinstance(value, int)
                else:
                    stands = isinstance(value, Object) and value.kind in kinds and newer.fits(value.kind, sort)
                if not stands:
                    raise Stands("thing", one.number, name)

    def road(self, newer, depth):
        layer = self.layers[depth]
        boxes = tuple(self.mark(value, newer) if box in layer.live() else "any" for box, value in enumerate(layer.boxes))
        stack = tuple(self.mark(value, newer) for value in layer.stack)
        if depth == len(self.layers) - 1:
            return road_from(newer, layer.body, (layer.row, boxes, stack))
        roads = []
        gives = self.layers[depth + 1].body[1][2]
        rules = Body(newer, layer.body)
        if gives == "num" or rules.sort(gives):
            roads.append(road_from(newer, layer.body, (layer.row + 1, boxes, stack + (rules.mark(gives),))))
        if rules.catch(layer.row) is not None:
            roads.append(road_from(newer, layer.body, (rules.catch(layer.row), boxes, ("num",))))
        roads = sorted([road for road in roads if road is not None], key=len)
        return [layer.row] + roads[0] if roads else None


def told_of(run):
    """All that a run tells of itself."""
    return (run.go(), run.said(), run.events(), run.made(), run.frames(), run.kept(),
            [run.thing(number) for number in run.kept()])


def refusal_of(act, *told, **named):
    try:
        act(*told, **named)
    except MillError as error:
        return (error.__class__, *vars(error).values())
    return None
