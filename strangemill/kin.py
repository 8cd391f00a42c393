"""What stands above kinds, and which signatures and types units have, in a table of units by their names."""


def is_kind_there(table, name):
    """True where the name is that of a kind."""
    return name in table and table[name][0] == "kind"


def is_face_there(table, name):
    """True where the name is that of a face."""
    return name in table and table[name][0] == "face"


def kinds_above(table, kind):
    """The kinds above a kind, the nearest first, as far as kinds are there; at most as many as there are units."""
    found = []
    above = kind[2]
    # Without a ring fewer are above a kind than there are units, it being one.
    while is_kind_there(table, above) and len(found) < len(table):
        found.append(table[above])
        above = table[above][2]
    return found


def signatures_of(unit):
    """The signatures of a face, or those of the ways of a kind."""
    if unit[0] == "face":
        return list(unit[2])
    return [way[:3] for way in unit[5]]


def types_of(unit):
    """The types in the fields and signatures of a unit."""
    found = [] if unit[0] == "face" else [field[1] for field in unit[4]]
    for _, takes, gives in signatures_of(unit):
        found += [*takes, gives]
    return found
