"""What rows take and bring, by a house."""

from strangemill.errors import NoUnit, NoWay

# What is wanted of each value that a row takes, the lowest first: `any`, whatever
# it is; `num`, a number; `thing`, a thing; or the name that a thing is to fit.
WANTS = {
    "ask": (), "num": (), "get": (), "jump": (),
    "say": ("num",), "throw": ("num",), "nought": ("num",),
    "put": ("any",), "drop": ("any",), "twin": ("any",), "turn": ("any", "any"),
    "plus": ("num", "num"), "minus": ("num", "num"), "times": ("num", "num"), "part": ("num", "num"),
    "same": ("thing", "thing"),
}

NUMBERS = ("ask", "num", "plus", "minus", "times", "part", "same")

# How many lie there behind these in the place of what they took.
LEFT = {"get": 1, "twin": 2, "turn": 2}


class Deed:
    """What a row takes, what it brings (None for nothing), and how many lie there in the place of what it took."""

    def __init__(self, wants, brings, left):
        self.wants = wants
        self.brings = brings
        self.left = left


def deed_of(house, gives, row):
    """The deed of a row of a way that gives so; None where what the row names is not there."""
    word = row[0]
    if word in WANTS:
        brings = "num" if word in NUMBERS else None
        return Deed(WANTS[word], brings, LEFT.get(word, 0 if brings is None else 1))
    if word == "give":
        return Deed((gives,), None, 0) if gives == "num" or has_unit(house, gives) else None
    if word == "fits":
        return Deed(("thing",), "num", 1) if has_unit(house, row[1]) else None
    if word == "new":
        return new_deed(house, row[1])
    if word in ("read", "write"):
        return field_deed(house, *row)
    return way_deed(house, *row)


def has_unit(house, name):
    """True where the name is that of a unit of the house."""
    return sort_of(house, name) != ""


def sort_of(house, name):
    """`kind` or `face`, what the unit of that name is; the text without signs where there is none."""
    try:
        return house.unit_of(name)[0]
    except NoUnit:
        return ""


def new_deed(house, kind):
    """The deed of a new of that kind."""
    if sort_of(house, kind) != "kind":
        return None
    return Deed(tuple([field[1] for field in house.fields(kind)]), kind, 1)


def field_deed(house, word, kind, field):
    """The deed of a read or write of that field."""
    sort = dict(house.fields(kind)).get(field) if sort_of(house, kind) == "kind" else None
    if sort is None:
        return None
    return Deed((kind,), sort, 1) if word == "read" else Deed((kind, sort), None, 0)


def way_deed(house, word, unit, way):
    """The deed of a call or hail of that way."""
    if sort_of(house, unit) != ("kind" if word == "call" else "face"):
        return None
    try:
        takes, gives = house.signature(unit, way)
    except NoWay:
        return None
    return Deed((unit, *takes), gives, 1)
