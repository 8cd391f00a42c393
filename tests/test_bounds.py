"""The interface of strangemill/bounds.py."""

import unittest

from strangemill import bounds
from strangemill.units import PARTS

NUMBERS = {
    "REACH": 1000000000000,
    "BOXES": 8,
    "STACK": 8,
    "ROWS": 40,
    "REGISTERS": 16,
    "FRAMES": 30,
    "ROOM": 200,
    "MOST": 400,
}

WORDS = (
    "ask say drop twin turn plus minus times part same give throw "
    "num get put fits new read write call hail jump nought"
)


class Bounds(unittest.TestCase):

    def test_the_eight_numbers(self):
        self.assertEqual(len(NUMBERS), 8)
        for name, number in NUMBERS.items():
            self.assertEqual(getattr(bounds, name), number, name)
            self.assertIs(type(getattr(bounds, name)), int, name)

    def test_the_words_in_their_order(self):
        self.assertIs(type(bounds.WORDS), tuple)
        self.assertEqual(bounds.WORDS, tuple(WORDS.split(" ")))
        self.assertEqual(len(bounds.WORDS), 23)

    def test_the_parts_are_told_of_just_these_words(self):
        self.assertEqual(tuple(PARTS), bounds.WORDS)


if __name__ == "__main__":
    unittest.main()
