"""How much there may be of each thing, and the words of rows."""

# Numbers of the mill go from -REACH to REACH - 1.
REACH = 1000000000000

BOXES = 8
STACK = 8
ROWS = 40
REGISTERS = 16
FRAMES = 30
ROOM = 200
MOST = 400

# Signs of a name, the first one counted.
SIGNS = 12

# Figures of the longest numbers of the mill.
FIGURES = 13

FACES = 3
FIELDS = 6
WAYS = 8
SIGNATURES = 8
TAKES = 6
CATCHES = 4

# Units of a house, and kinds above a kind of it.
UNITS = 20
ABOVE = 7

# In this order, from 0, packs number the words.
WORDS = (
    "ask", "say", "drop", "twin", "turn", "plus", "minus", "times", "part",
    "same", "give", "throw", "num", "get", "put", "fits", "new", "read",
    "write", "call", "hail", "jump", "nought",
)
