"""The points [14] and [15] once more, each word by itself, over all units of a house."""


def is_kind(unit):
    return unit is not None and unit[0] == "kind"


class Rules:

    def __init__(self, units):
        self.units = {unit[1]: unit for unit in units}
        self.words = {
            "above": self.above, "faces": self.faces, "ring": self.ring, "deep": self.deep, "types": self.types,
        }
        self.later_words = {"fields": self.fields, "ways": self.ways, "lacks": self.lacks}

    def up(self, unit, steps):
        """The kind so many steps above, None where the way up ends ahead."""
        for _ in range(steps):
            above = self.units.get(unit[2])
            if not is_kind(above):
                return None
            unit = above
        return unit

    def all_above(self, unit):
        return [one for one in (self.up(unit, steps) for steps in range(1, 25)) if one]

    def above(self, unit):
        return is_kind(unit) and unit[2] and not is_kind(self.units.get(unit[2]))

    def faces(self, unit):
        return is_kind(unit) and any(name not in self.units or is_kind(self.units[name]) for name in unit[3])

    def ring(self, unit):
        return is_kind(unit) and self.up(unit, 24) is not None

    def deep(self, unit):
        return is_kind(unit) and self.up(unit, 8) is not None

    def types(self, unit):
        signatures = [way[1:3] for way in unit[5]] if is_kind(unit) else [one[1:] for one in unit[2]]
        told = [name for _, name in unit[4]] if is_kind(unit) else []
        told += [name for takes, gives in signatures for name in takes + (gives,)]
        return any(name != "num" and name not in self.units for name in told)

    def fields(self, unit):
        return is_kind(unit) and any(
            field[0] == own[0] for one in self.all_above(unit) for field in one[4] for own in unit[4])

    def ways(self, unit):
        return is_kind(unit) and any(
            way[0] == own[0] and way[1:3] != own[1:3]
            for one in self.all_above(unit) for way in one[5] for own in unit[5])

    def lacks(self, unit):
        if not is_kind(unit):
            return False
        family = [unit] + self.all_above(unit)
        has = [way[:3] for one in family for way in one[5]]
        return any(signature not in has for one in family for name in one[3] for signature in self.units[name][2])

    def first(self, words):
        for name in sorted(self.units):
            for word, due in words.items():
                if due(self.units[name]):
                    return (name, word)
        return None


def bad_house_by_rules(units):
    """The unit and the word with which the units are refused, None where they make a house."""
    if len(units) > 20:
        return ("", "many")
    names = [unit[1] for unit in units]
    for name in sorted(names):
        if names.count(name) > 1:
            return (name, "twice")
    rules = Rules(units)
    return rules.first(rules.words) or rules.first(rules.later_words)
