"""What is a unit: a kind or a face, its ways and their rows.

Whatever tuple is handed in, nothing here fails: the sort of each value is
looked at before the value is measured, ordered or looked up. So no tuple,
however deep, is compared with another one or used as a key, either of which
would go down into it.
"""

from strangemill.bounds import BOXES, CATCHES, FACES, FIELDS, ROWS, SIGNATURES, STACK, TAKES, WAYS
from strangemill.names import is_name, is_number, is_type, is_unit_name, is_whole, is_within

# What stands behind the word of a row, place by place.
PARTS = {
    "ask": (), "say": (), "drop": (), "twin": (), "turn": (), "plus": (),
    "minus": (), "times": (), "part": (), "same": (), "give": (), "throw": (),
    "num": ("number",), "get": ("box",), "put": ("box",),
    "fits": ("unit",), "new": ("unit",),
    "read": ("unit", "name"), "write": ("unit", "name"),
    "call": ("unit", "name"), "hail": ("unit", "name"),
    "jump": ("entry",), "nought": ("entry",),
}


def is_unit(thing):
    """True where the tuple is a kind or a face, else False."""
    return is_kind(thing) or is_face(thing)


def is_kind(thing):
    """True for a kind."""
    if not is_tuple(thing, 6, 6) or thing[0] != "kind":
        return False
    _, name, above, faces, fields, ways = thing
    return (
        is_unit_name(name)
        and (above == "" or is_unit_name(above))
        and are_faces(faces)
        and are_named(fields, 0, FIELDS, is_field)
        and are_named(ways, 0, WAYS, is_way)
    )


def is_face(thing):
    """True for a face."""
    if not is_tuple(thing, 3, 3) or thing[0] != "face":
        return False
    _, name, signatures = thing
    return is_unit_name(name) and are_named(signatures, 1, SIGNATURES, is_signature)


def is_tuple(thing, low, high):
    """True for a tuple of low to high parts."""
    return isinstance(thing, tuple) and low <= len(thing) <= high


def are_all(thing, low, high, holds):
    """True for a tuple of low to high parts, of each of which it holds."""
    # The length is asked first, so that what is far too long costs nothing.
    return is_tuple(thing, low, high) and all([holds(part) for part in thing])


def are_named(thing, low, high, holds):
    """True for a tuple as in are_all whose parts begin with unlike names."""
    return are_all(thing, low, high, holds) and len({part[0] for part in thing}) == len(thing)


def are_faces(thing):
    """True for the faces of a kind."""
    return are_all(thing, 0, FACES, is_unit_name) and len(set(thing)) == len(thing)


def is_field(thing):
    """True for a field of a kind."""
    return is_tuple(thing, 2, 2) and is_name(thing[0]) and is_type(thing[1])


def is_signature(thing):
    """True for a signature: a name, what is taken, what is given."""
    if not is_tuple(thing, 3, 3):
        return False
    name, takes, gives = thing
    return is_name(name) and are_all(takes, 0, TAKES, is_type) and is_type(gives)


def is_way(thing):
    """True for a way of a kind."""
    if not is_tuple(thing, 6, 6) or not is_signature(thing[:3]):
        return False
    rows, entries, catches = thing[3:]
    if not is_tuple(rows, 1, ROWS) or not are_entries(entries, len(rows)):
        return False
    heights = dict(entries)
    return (
        all([is_row(row, heights) for row in rows])
        and is_tuple(catches, 0, CATCHES)
        and all([is_catch(catch, len(rows), heights) for catch in catches])
    )


def are_entries(thing, many):
    """True for the entries of a way with so many rows."""
    # Rising rows can't be more than there are rows.
    if not is_tuple(thing, 0, many):
        return False
    least = 0
    for entry in thing:
        if not is_entry(entry, least, many):
            return False
        least = entry[0] + 1
    return True


def is_entry(thing, least, many):
    """True for an entry at a row from the least one on, of so many rows."""
    return is_tuple(thing, 2, 2) and is_within(thing[0], least, many - 1) and is_within(thing[1], 0, STACK)


def is_catch(thing, many, heights):
    """True for a catch of a way with so many rows and entries of these heights."""
    if not is_tuple(thing, 3, 3):
        return False
    first, end, at = thing
    return (
        is_within(first, 0, many)
        and is_within(end, first + 1, many)
        and is_whole(at)
        and heights.get(at) == 1
    )


def is_row(thing, heights):
    """True for a row of a way with entries of these heights."""
    if not is_tuple(thing, 1, 3) or not isinstance(thing[0], str):
        return False
    sorts = PARTS.get(thing[0])
    if sorts is None or len(thing) != len(sorts) + 1:
        return False
    return all([is_part(sort, part, heights) for sort, part in zip(sorts, thing[1:])])


def is_part(sort, part, heights):
    """True where the part of a row is of the sort that its place wants."""
    if sort == "number":
        return is_number(part)
    if sort == "box":
        return is_within(part, 0, BOXES - 1)
    if sort == "unit":
        return is_unit_name(part)
    if sort == "name":
        return is_name(part)
    return is_whole(part) and part in heights
