"""Units for the tests, each right unless a part of it is told otherwise."""

PLAIN = ("ask", "say", "drop", "twin", "turn", "plus", "minus", "times", "part", "same", "give", "throw")

WORDS = PLAIN + (
    "num", "get", "put", "fits", "new", "read", "write", "call", "hail", "jump", "nought",
)

GIVE = (("num", 1), ("give",))


def way(name="way", takes=(), gives="num", rows=GIVE, entries=(), catches=()):
    return (name, takes, gives, rows, entries, catches)


def kind(name="Kind", above="", faces=(), fields=(), ways=()):
    return ("kind", name, above, faces, fields, ways)


def face(name="Face", signatures=(("way", (), "num"),)):
    return ("face", name, signatures)


def kind_of_way(**parts):
    return kind(ways=(way(**parts),))


def kind_of_row(row):
    """A kind with the row in a way whose row 0 is an entry of height 2, row 1 none."""
    return kind_of_way(rows=(("num", 1), ("num", 2), row, ("give",)), entries=((0, 2),))


# Every sort of part stands in one of these two.
RICH_KIND = kind(
    "Account", "Thing", ("Payer", "Owner"), (("total", "num"), ("owner", "Person")),
    (
        way("pay", ("num", "Person"), "Account", (
            ("num", -5), ("get", 0), ("put", 7), ("fits", "Payer"), ("new", "Person"),
            ("read", "Account", "total"), ("write", "Account", "total"),
            ("call", "Person", "name"), ("hail", "Payer", "pay"),
            ("jump", 11), ("nought", 0), ("drop",), ("ask",), ("give",),
        ), ((0, 0), (4, 8), (11, 1)), ((0, 4, 11), (5, 14, 11))),
        way("rest"),
    ),
)

RICH_FACE = face("Payer", (("pay", ("num", "Person"), "Account"), ("rest", (), "num")))

# With a unit name handed in, each is a unit just where the name is right.
UNIT_PLACES = {
    "a kind's name": lambda name: kind(name),
    "above": lambda name: kind(above=name),
    "the first face": lambda name: kind(faces=(name, "Zebra")),
    "the last face": lambda name: kind(faces=("Zebra", "Yak", name)),
    "a field's kind": lambda name: kind(fields=(("total", name),)),
    "the last field's kind": lambda name: kind(fields=(("a", "num"), ("b", name))),
    "what a way takes": lambda name: kind_of_way(takes=("num", name)),
    "what a way gives": lambda name: kind_of_way(gives=name),
    "fits": lambda name: kind_of_row(("fits", name)),
    "new": lambda name: kind_of_row(("new", name)),
    "read": lambda name: kind_of_row(("read", name, "total")),
    "write": lambda name: kind_of_row(("write", name, "total")),
    "call": lambda name: kind_of_row(("call", name, "pay")),
    "hail": lambda name: kind_of_row(("hail", name, "pay")),
    "a face's name": lambda name: face(name),
    "what a signature takes": lambda name: face(signatures=(("pay", (name, "num"), "num"),)),
    "what a signature gives": lambda name: face(signatures=(("pay", (), name),)),
}

# Those of them where a type stands, which `num` is, too.
TYPE_PLACES = (
    "a field's kind", "the last field's kind", "what a way takes", "what a way gives",
    "what a signature takes", "what a signature gives",
)

# Likewise for a name.
NAME_PLACES = {
    "a field's name": lambda name: kind(fields=((name, "num"),)),
    "the last field's name": lambda name: kind(fields=(("zebra", "num"), (name, "num"))),
    "a way's name": lambda name: kind_of_way(name=name),
    "read": lambda name: kind_of_row(("read", "Kind", name)),
    "write": lambda name: kind_of_row(("write", "Kind", name)),
    "call": lambda name: kind_of_row(("call", "Kind", name)),
    "hail": lambda name: kind_of_row(("hail", "Face", name)),
    "a signature's name": lambda name: face(signatures=((name, (), "num"),)),
    "the last signature's name": lambda name: face(signatures=(("zebra", (), "num"), (name, (), "num"))),
}

# With a whole number handed in, each is a unit for the numbers told with it:
# the least, the greatest.
NUMBER_PLACES = {
    "num": (lambda n: kind_of_row(("num", n)), -1000000000000, 999999999999),
    "get": (lambda n: kind_of_row(("get", n)), 0, 7),
    "put": (lambda n: kind_of_row(("put", n)), 0, 7),
    "jump": (lambda n: kind_of_row(("jump", n)), 0, 0),
    "nought": (lambda n: kind_of_row(("nought", n)), 0, 0),
    "an entry's row": (lambda n: kind_of_way(entries=((n, 3),)), 0, 1),
    "an entry's height": (lambda n: kind_of_way(entries=((1, n),)), 0, 8),
    "a catch's from": (lambda n: kind_of_way(entries=((1, 1),), catches=((n, 2, 1),)), 0, 1),
    "a catch's to": (lambda n: kind_of_way(entries=((1, 1),), catches=((0, n, 1),)), 1, 2),
    "a catch's at": (lambda n: kind_of_way(entries=((1, 1),), catches=((0, 2, n),)), 1, 1),
}


def deep(depth=200000):
    """A tuple in which tuples stand so deep that Python can't compare two such."""
    thing = ()
    for _ in range(depth):
        thing = (thing,)
    return thing


def paths(thing, ahead=()):
    """The way to each value in a tuple, as tuples of indexes, its own one out."""
    for at, part in enumerate(thing):
        yield ahead + (at,)
        if isinstance(part, tuple):
            yield from paths(part, ahead + (at,))


def at_path(thing, path):
    for at in path:
        thing = thing[at]
    return thing


def with_other(thing, path, other):
    """The tuple with another value at the end of the path."""
    if not path:
        return other
    at = path[0]
    return thing[:at] + (with_other(thing[at], path[1:], other),) + thing[at + 1:]
