"""The refusals: each one a class of its own, straight beneath MillError."""


class MillError(ValueError):
    """What every refusal of the mill stands beneath."""


class BadLine(MillError):
    """The text of a unit is not right; line is its first wrong line, from 0."""

    def __init__(self, line):
        self.line = line


class BadCode(MillError):
    """A pack is not right; place is that of its first wrong code, from 0."""

    def __init__(self, place):
        self.place = place


class BadHouse(MillError):
    """Units make no house; word tells what is due to the unit."""

    def __init__(self, unit, word):
        self.unit = unit
        self.word = word


class TwoUnits(MillError):
    """Two units of a change have this name."""

    def __init__(self, name):
        self.name = name


class NoUnit(MillError):
    """No unit of the wanted sort has this name."""

    def __init__(self, name):
        self.name = name


class NoWay(MillError):
    """The unit has no way of this name."""

    def __init__(self, unit, name):
        self.unit = unit
        self.name = name


class NoRun(MillError):
    """A run can't begin so; word tells why."""

    def __init__(self, word):
        self.word = word


class NoAsk(MillError):
    """The run stands at no ask."""


class NoThing(MillError):
    """Nothing that is kept has this number."""

    def __init__(self, number):
        self.number = number


class Stands(MillError):
    """What stands bars an exchange: a thing by a field, a frame by a road."""

    def __init__(self, what, number, told):
        self.what = what
        self.number = number
        self.told = told


class BadPlan(MillError):
    """The plan that was handed in for this way of this kind does not hold."""

    def __init__(self, kind, way):
        self.kind = kind
        self.way = way


class NoStep(MillError):
    """There is no change to go back behind."""


class Taken(MillError):
    """A run is kept by this name already."""

    def __init__(self, name):
        self.name = name


class NoName(MillError):
    """No run is kept by this name."""

    def __init__(self, name):
        self.name = name
