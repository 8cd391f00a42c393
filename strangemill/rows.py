"""What may be said of rows by themselves."""

# These move what lies in the places, whatever it is.
SHUFFLES = ("get", "put", "drop", "twin", "turn")

# These work out what they bring from what they take alone, and never fault.
QUIET = ("plus", "minus", "times", "same")

# These do, or tell, what may be otherwise at another time, so that plans do them one by one, in their order.
DEEDS = ("part", "fits", "new", "read", "write", "call", "hail", "ask", "say")

MAY_FAULT = ("part", "new", "call", "hail", "throw")


def leads_on(row):
    """True for a row that leads to an entry, which is its only part."""
    return row[0] in ("jump", "nought")


def shuffle(row, boxes, stack):
    """Does a row of the shuffles, in lists of whatever lies in the boxes and on the stack."""
    word = row[0]
    if word == "get":
        stack.append(boxes[row[1]])
    elif word == "put":
        boxes[row[1]] = stack.pop()
    elif word == "drop":
        stack.pop()
    elif word == "twin":
        stack.append(stack[-1])
    else:
        top = stack.pop()
        stack.insert(len(stack) - 1, top)


def taken(stack, many):
    """Takes so many from the top of the stack: a list, the lowest first."""
    first = len(stack) - many
    found = stack[first:]
    del stack[first:]
    return found
