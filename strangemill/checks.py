"""What bars units from making a house."""

from strangemill.bounds import ABOVE, UNITS
from strangemill.errors import BadHouse
from strangemill.kin import is_face_there, is_kind_there, kinds_above, signatures_of, types_of


def check_units(units):
    """Refuses units that make no house, with BadHouse."""
    if len(units) > UNITS:
        raise BadHouse("", "many")
    names = sorted([unit[1] for unit in units])
    for name, behind in zip(names, names[1:]):
        if name == behind:
            raise BadHouse(name, "twice")
    table = {unit[1]: unit for unit in units}
    # What hangs on the kinds above is looked at only where all of them are in order.
    check_each(names, table, place_word)
    check_each(names, table, family_word)


def check_each(names, table, due):
    """Refuses the first unit to which a word is due."""
    for name in names:
        word = due(table, table[name])
        if word != "":
            raise BadHouse(name, word)


def place_word(table, unit):
    """The first word due to a unit for what it names, or for what is above it."""
    if unit[0] == "kind":
        if unit[2] != "" and not is_kind_there(table, unit[2]):
            return "above"
        if not all([is_face_there(table, face) for face in unit[3]]):
            return "faces"
        many = len(kinds_above(table, unit))
        if many == len(table):
            return "ring"
        if many > ABOVE:
            return "deep"
    if not all([word == "num" or word in table for word in types_of(unit)]):
        return "types"
    return ""


def family_word(table, unit):
    """The first word due to a unit for what it tells otherwise than the kinds above, or lacks."""
    if unit[0] == "face":
        return ""
    above = kinds_above(table, unit)
    fields = [field[0] for kind in above for field in kind[4]]
    if any([field[0] in fields for field in unit[4]]):
        return "fields"
    signatures = [signature for kind in above for signature in signatures_of(kind)]
    if any([is_other(own, one) for own in signatures_of(unit) for one in signatures]):
        return "ways"
    signatures += signatures_of(unit)
    for kind in [unit] + above:
        for face in kind[3]:
            if not all([one in signatures for one in signatures_of(table[face])]):
                return "lacks"
    return ""


def is_other(signature, other):
    """True for two signatures of one name that are unlike."""
    return signature[0] == other[0] and signature != other
