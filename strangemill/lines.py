"""The forms of the lines of texts: what a line tells, whatever stands around it.

Each of these is handed the words of a line, parted at its blanks, the first
one being that of its form, and tells None where the line is not of this form.
A blank too many leaves a word without signs behind, which no form lets be.
"""

from strangemill.bounds import FIGURES, STACK
from strangemill.names import is_name, is_unit_name, is_within
from strangemill.units import PARTS, is_field, is_kind, is_part, is_signature

DIGITS = "0123456789"


def number_of(word):
    """The whole number that the word writes."""
    figures = word[1:] if word.startswith("-") else word
    # The length is asked first, as Python reads no text of some thousand figures.
    if not 1 <= len(figures) <= FIGURES or not all([figure in DIGITS for figure in figures]):
        return None
    number = int(word)
    # A needless nought, and the sign of -0, are lost on the way to and fro.
    return number if str(number) == word else None


def head_of(words):
    """What the first line of a text tells, a kind or a face; its first word may be any."""
    if words[0] == "kind" and len(words) >= 2:
        return kind_head(words)
    if words[0] == "face" and len(words) == 2 and is_unit_name(words[1]):
        return ("face", words[1])
    return None


def kind_head(words):
    """What the first line of a kind tells: its word, its name, above and its faces."""
    above, rest = "", words[2:]
    if len(rest) >= 2 and rest[0] == "above":
        above, rest = rest[1], rest[2:]
        # In a unit the text without signs is right there, in a line it is a blank too many.
        if above == "":
            return None
    if rest and (rest[0] != "faces" or len(rest) == 1):
        return None
    head = ("kind", words[1], above, tuple(rest[1:]))
    return head if is_kind((*head, (), ())) else None


def field_of(words):
    """The field that a line tells."""
    field = tuple(words[1:])
    return field if is_field(field) else None


def signature_of(words):
    """The signature that the line of a way tells."""
    if len(words) < 4 or words[-2] != "gives":
        return None
    signature = (words[1], tuple(words[2:-2]), words[-1])
    return signature if is_signature(signature) else None


def catch_of(words):
    """The three labels that the line of a catch tells."""
    labels = tuple(words[1:])
    return labels if len(labels) == 3 and all([is_name(label) for label in labels]) else None


def entry_of(words):
    """The label and the height that a line of `at` tells."""
    if len(words) != 3 or not is_name(words[1]):
        return None
    height = number_of(words[2])
    return (words[1], height) if is_within(height, 0, STACK) else None


def label_of(words):
    """The label that a line of `mark` tells."""
    return words[1] if len(words) == 2 and is_name(words[1]) else None


def row_of(words):
    """The row that a line tells, with a label where it leads to a row; its first word may be any."""
    sorts = PARTS.get(words[0])
    if sorts is None or len(words) != len(sorts) + 1:
        return None
    parts = [row_part(sort, word) for sort, word in zip(sorts, words[1:])]
    return None if None in parts else (words[0], *parts)


def row_part(sort, word):
    """The part of a row that the word tells, of the sort that its place wants."""
    if sort == "entry":
        return word if is_name(word) else None
    part = number_of(word) if sort in ("number", "box") else word
    return part if is_part(sort, part, {}) else None
