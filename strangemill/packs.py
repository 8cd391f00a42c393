"""The packs of units: words and codes."""

from strangemill.packing import Packing
from strangemill.unpacking import Unpacking


def packed(unit):
    """The pack of a unit: its words and its codes."""
    packing = Packing()
    if unit[0] == "kind":
        packing.write_kind(unit)
    else:
        packing.write_face(unit)
    return (tuple(packing.words), tuple(packing.codes))


def unpacked(words, codes):
    """The unit of a pack; else it is refused with BadCode."""
    unpacking = Unpacking(words, codes)
    unit = unpacking.read_unit()
    unpacking.read_end()
    return unit
