"""Numbers, names and types, told apart from all else that may be handed in."""

from strangemill.bounds import REACH, SIGNS

CAPITALS = "ABCDEFGHIJKLMNOPQRSTUVWXYZ"
SMALLS = "abcdefghijklmnopqrstuvwxyz"
BEHIND = "abcdefghijklmnopqrstuvwxyz0123456789"


def is_whole(thing):
    """True for a whole number, however great."""
    # To Python a truth is an int, here it is no number.
    return isinstance(thing, int) and not isinstance(thing, bool)


def is_within(thing, low, high):
    """True for a whole number from low to high."""
    return is_whole(thing) and low <= thing <= high


def is_number(thing):
    """True for a number of the mill."""
    return is_within(thing, -REACH, REACH - 1)


def begins_with(thing, firsts):
    """True for a text of one of the first signs and name signs behind it."""
    if not isinstance(thing, str) or not 1 <= len(thing) <= SIGNS:
        return False
    # The signs are looked up one by one, as Python's own words for letters
    # and figures let by letters and figures of every script.
    return thing[0] in firsts and all([sign in BEHIND for sign in thing[1:]])


def is_unit_name(thing):
    """True for a name that a unit may have."""
    return begins_with(thing, CAPITALS)


def is_name(thing):
    """True for a name that a field, a way or a label may have."""
    return begins_with(thing, SMALLS)


def is_type(thing):
    """True for `num` and for the name of a unit."""
    return thing == "num" or is_unit_name(thing)
