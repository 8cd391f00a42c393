"""What rows work out of numbers and things."""

from strangemill.bounds import REACH


def brought_in(number):
    """The number of the mill for a whole number, however great."""
    return (number + REACH) % (2 * REACH) - REACH


def reckoned(word, first, second):
    """What a quiet row of that word, or a part not by 0, brings for two values."""
    if word == "same":
        return 1 if first == second else 0
    if word == "plus":
        return brought_in(first + second)
    if word == "minus":
        return brought_in(first - second)
    if word == "times":
        return brought_in(first * second)
    return brought_in(first // second)
