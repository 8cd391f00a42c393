"""Houses: units that stand together."""

from strangemill.checks import check_units
from strangemill.errors import NoUnit, NoWay, TwoUnits
from strangemill.kin import kinds_above


class House:
    """A house of units; where they make none it is refused with BadHouse."""

    def __init__(self, units):
        check_units(units)
        named = {unit[1]: unit for unit in units}
        # By the order of names.
        self._table = {name: named[name] for name in sorted(named)}
        # For each kind the kinds of its family, itself first, the topmost last.
        self._families = {}
        for name, unit in self._table.items():
            if unit[0] == "kind":
                self._families[name] = [unit] + kinds_above(self._table, unit)

    def __eq__(self, other):
        """True for a house of the same units."""
        return isinstance(other, House) and self._table == other._table

    def __len__(self):
        """The number of units."""
        return len(self._table)

    def units(self):
        """The units, by the order of names."""
        return list(self._table.values())

    def unit_of(self, name):
        """The unit of that name."""
        if name not in self._table:
            raise NoUnit(name)
        return self._table[name]

    def names(self, name):
        """The names of a kind or of a face, sorted, each once."""
        if self.unit_of(name)[0] == "face":
            return [name]
        found = {}
        for kind in self._families[name]:
            found[kind[1]] = True
            for face in kind[3]:
                found[face] = True
        return sorted(found)

    def fits(self, name, other):
        """True where the other name is among the names of the first one."""
        found = self.names(name)
        self.unit_of(other)
        return other in found

    def fields(self, kind):
        """The fields of a kind, as pairs, from the top of its family down."""
        found = []
        for one in reversed(self._family(kind)):
            found += list(one[4])
        return found

    def signature(self, unit, name):
        """What a way of a kind, or of a face, takes and gives."""
        if self.unit_of(unit)[0] == "kind":
            return self.body(unit, name)[1][1:3]
        for signature in self._table[unit][2]:
            if signature[0] == name:
                return signature[1:]
        raise NoWay(unit, name)

    def body(self, kind, name):
        """The kind of the family in which the way of that name stands, the lowest one, and the way."""
        for one in self._family(kind):
            for way in one[5]:
                if way[0] == name:
                    return (one[1], way)
        raise NoWay(kind, name)

    def changed(self, units, *, out=()):
        """The house in which these units stand, too, or in the place of others, and those of out do not."""
        coming = {}
        for unit in units:
            if unit[1] in coming:
                raise TwoUnits(unit[1])
            coming[unit[1]] = unit
        gone = {}
        for name in out:
            if name not in self._table or name in gone or name in coming:
                raise NoUnit(name)
            gone[name] = True
        stay = [unit for name, unit in self._table.items() if name not in gone and name not in coming]
        return House(stay + list(coming.values()))

    def _family(self, kind):
        """The kinds of a kind's family, itself first, the topmost last."""
        if kind not in self._families:
            raise NoUnit(kind)
        return self._families[kind]
