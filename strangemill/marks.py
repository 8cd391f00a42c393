"""Marks: what is known of what lies in a place."""

from strangemill.errors import NoUnit
from strangemill.names import is_unit_name


def mark_of(house, sort):
    """The mark of a type: `num`, or the names of the unit, none where the house has no such unit."""
    if sort == "num":
        return "num"
    try:
        return tuple(house.names(sort))
    except NoUnit:
        return ()


def covers(mark, other):
    """True where all that has the other mark is as this one tells."""
    if mark == "any" or mark == other:
        return True
    return isinstance(mark, tuple) and isinstance(other, tuple) and all([name in other for name in mark])


def in_common(mark, other):
    """The narrowest mark that covers both."""
    if mark == other:
        return mark
    if isinstance(mark, tuple) and isinstance(other, tuple):
        return tuple([name for name in mark if name in other])
    return "any"


def are_covered(marks, others):
    """True where there are as many others, and each mark covers that in its place."""
    return len(marks) == len(others) and all([covers(mark, other) for mark, other in zip(marks, others)])


def all_in_common(marks, others):
    """What the marks have in common with as many others, place by place."""
    return tuple([in_common(mark, other) for mark, other in zip(marks, others)])


def is_mark(thing):
    """True for a mark, of all texts and tuples of texts."""
    if not isinstance(thing, tuple):
        return thing in ("num", "any")
    return all([is_unit_name(name) for name in thing]) and list(thing) == sorted(set(thing))
