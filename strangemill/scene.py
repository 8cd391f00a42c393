"""A house as a run works in it: its bodies, and the plans of these."""

from strangemill.errors import NoUnit, NoWay
from strangemill.plans import blocks_of
from strangemill.sheets import Sheet
from strangemill.stands import is_let_by


def own_body(house, kind, way):
    """The body of the way of that name that stands in the kind itself; None where none does."""
    try:
        body = house.body(kind, way)
    except (NoUnit, NoWay):
        return None
    return body if body[0] == kind else None


def plan_table(blocks):
    """A plan as runs go by it: the pairs of the map and the steps, by the entry."""
    return {entry: (frozen(pairs), frozen(steps)) for entry, pairs, steps in blocks}


def frozen(thing):
    """The thing with tuples in the place of lists."""
    return tuple([frozen(part) for part in thing]) if isinstance(thing, (list, tuple)) else thing


class Scene:
    """A house, and what was found out of its bodies."""

    def __init__(self, house):
        self.home = house
        # These hang on the kind and the way's name; among the plans are those that were handed in.
        self.plans = {}
        self._sheets = {}
        self._let_by = {}

    def sheet_of(self, kind, way):
        """The sheet of the body of the way of that name in a kind."""
        body = self.home.body(kind, way)
        key = (body[0], way)
        if key not in self._sheets:
            self._sheets[key] = Sheet(self.home, body)
        return self._sheets[key]

    def lets_by(self, sheet):
        """True where the body of a sheet of this scene is let by."""
        key = (sheet.kind, sheet.way[0])
        if key not in self._let_by:
            self._let_by[key] = is_let_by(sheet)
        return self._let_by[key]

    def plan_for(self, sheet):
        """The plan of a body, as a table; None where it does not stand in the house, or is not let by."""
        key = (sheet.kind, sheet.way[0])
        if own_body(self.home, *key) != (sheet.kind, sheet.way):
            return None
        if key not in self.plans:
            own = self.sheet_of(*key)
            self.plans[key] = plan_table(blocks_of(own)) if self.lets_by(own) else None
        return self.plans[key]
