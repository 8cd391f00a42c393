"""What is refused, and with what, for the tests."""

from strangemill.errors import BadCode, BadHouse, BadLine, MillError
from strangemill.house import House
from strangemill.packs import unpacked
from strangemill.texts import read_unit


def refusal(act, *told, **named):
    """The class and the fields of the refusal that comes, None where none comes."""
    try:
        act(*told, **named)
    except MillError as error:
        return (error.__class__, *vars(error).values())
    return None


def bad_line(text):
    """The line that is refused in the text, None where it is right."""
    return field_of(BadLine, refusal(read_unit, text))


def bad_code(words, codes):
    """The place that is refused in the pack, None where it is right."""
    return field_of(BadCode, refusal(unpacked, words, codes))


def bad_house(units):
    """The unit and the word with which the units are refused, None where they make a house."""
    told = refusal(House, units)
    if told is None:
        return None
    assert told[0] is BadHouse, told
    return told[1:]


def field_of(wanted, told):
    if told is None:
        return None
    assert told[0] is wanted and len(told) == 2, told
    return told[1]
