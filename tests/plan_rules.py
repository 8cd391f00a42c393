"""The second look, [36] to [38], once more: terms as written texts, one block after the other."""

from look_rules import Body
from run_rules import mill
from strangemill.look import paper_of

QUIET = ("plus", "minus", "times", "same")
DEEDS = ("part", "fits", "new", "read", "write", "call", "hail", "ask", "say")


def is_number(thing):
    return type(thing) is int


def is_pair_list(thing):
    return isinstance(thing, list) and all(isinstance(pair, tuple) and len(pair) == 2 for pair in thing)


def is_register(thing):
    return is_number(thing) and 0 <= thing <= 15


class Block:
    """A block gone through: for each row ahead of its end the terms that it takes and brings, boxes and stack ahead."""

    def __init__(self, rules, entry):
        self.rules = rules
        heights = dict(rules.entries)
        boxes = {box: f"in box {box}" for box in rules.live(entry)}
        stack = [f"in stack {at}" for at in range(heights.get(entry, 0))]
        self.quiet, self.due, self.numbers = {}, [], {}
        at = entry
        while True:
            row = rules.rows[at]
            word = row[0]
            takes, brings = rules.takes_of(row)
            ahead = (dict(boxes), list(stack[:len(stack) - len(takes)]))
            taken = stack[len(stack) - len(takes):]
            del stack[len(stack) - len(takes):]
            if word in ("jump", "give", "throw") or word == "nought" and taken == ["num 0"]:
                told = "to" if word in ("jump", "nought") else word
                self.due.append((told, at, taken, row[-1], ahead))
                break
            if word == "nought" and not taken[0].startswith("num "):
                self.due.append(("nought", at, taken, row[1], ahead))
            elif word == "num":
                stack.append(f"num {row[1]}")
            elif word == "get":
                stack.append(boxes[row[1]])
            elif word == "put":
                boxes[row[1]] = taken[0]
            elif word == "twin":
                stack += taken * 2
            elif word == "turn":
                stack += taken[::-1]
            elif word in QUIET:
                stack.append(self.term(word, *taken))
                self.quiet[at] = (taken, stack[-1])
            elif word in DEEDS:
                if brings:
                    stack.append(f"out {at}")
                self.due.append(("do", at, taken, f"out {at}" if brings else None, ahead))
            at += 1
            if at in heights:
                self.due.append(("to", at, [], at, (dict(boxes), list(stack))))
                break

    def term(self, word, first, second):
        if word != "same" and first.startswith("num ") and second.startswith("num "):
            one, other = int(first[4:]), int(second[4:])
            return f"num {mill({'plus': one + other, 'minus': one - other, 'times': one * other}[word])}"
        # A long text is written short, the same each time.
        text = f"{word} ({first}) ({second})"
        return self.numbers.setdefault(text, f"quiet {len(self.numbers)}")


def plan_holds_by_rules(house, kind, way, plan):
    if paper_of(house, kind, way) is None:
        return False
    rules = Body(house, house.body(kind, way))
    entries = rules.blocks()
    if [block[0] for block in plan] != entries:
        return False
    maps = {block[0]: block[1] for block in plan}
    heights = dict(rules.entries)
    for entry, pairs in maps.items():
        places = [("box", box) for box in rules.live(entry)]
        places += [("stack", at) for at in range(heights.get(entry, 0))]
        numbers = [number for _, number in pairs]
        if [place for place, _ in pairs] != places or len(set(numbers)) < len(numbers):
            return False
        if not all(is_register(number) for number in numbers):
            return False
    return all(BlockLook(rules, maps, entry).holds(steps) for entry, _, steps in plan)


class BlockLook:

    def __init__(self, rules, maps, entry):
        self.rules, self.maps = rules, maps
        self.block = Block(rules, entry)
        self.terms = {number: f"in {place[0]} {place[1]}" for place, number in maps[entry]}

    def term(self, source):
        if len(source) == 2 and source[0] == "reg" and is_number(source[1]):
            return self.terms.get(source[1])
        if len(source) == 2 and source[0] == "num" and is_number(source[1]) and mill(source[1]) == source[1]:
            return f"num {source[1]}"
        return None

    def holds(self, steps):
        due = list(self.block.due)
        for step in steps:
            if not due:
                return False
            if step[0] == "set" and len(step) == 3:
                if not is_register(step[1]) or self.term(step[2]) is None:
                    return False
                self.terms[step[1]] = self.term(step[2])
            elif step[0] == "do" and len(step) == 6 and step[1] in self.block.quiet:
                taken, term = self.block.quiet[step[1]]
                if [self.term(source) for source in step[2]] != taken or not is_register(step[3]) or step[4] or step[5]:
                    return False
                self.terms[step[3]] = term
            elif not self.due_holds(step, *due.pop(0)):
                return False
        return not due

    def due_holds(self, step, word, at, taken, goal, ahead):
        if step[0] != word or len(step) != {"do": 6, "nought": 4, "to": 3, "give": 2, "throw": 3}[word]:
            return False
        if word == "do":
            return self.deed_holds(step, at, taken, goal, ahead)
        if word == "to":
            return step[1] == goal and self.fits(step[2], goal, ahead, None)
        if self.term(step[1]) != taken[0]:
            return False
        if word == "nought":
            return step[2] == goal and self.fits(step[3], goal, ahead, None)
        return word == "give" or self.fault_fits(step[2], at, ahead)

    def deed_holds(self, step, at, taken, brings, ahead):
        _, row, sources, number, moves, seen = step
        boxes, stack = ahead
        if row != at or [self.term(source) for source in sources] != taken:
            return False
        if brings is None and number is not None or brings is not None and not is_register(number):
            return False
        wanted = []
        if self.rules.rows[at][0] in ("ask", "new", "call", "hail"):
            wanted = [(("box", box), boxes[box]) for box in self.rules.live(at)]
            wanted += [(("stack", place), term) for place, term in enumerate(stack)]
        if [(place, self.term(source)) for place, source in seen] != wanted or not self.fault_fits(moves, at, ahead):
            return False
        if brings is not None:
            self.terms[number] = brings
        return True

    def fault_fits(self, moves, at, ahead):
        goal = self.rules.catch(at)
        return moves == [] if goal is None else self.fits(moves, goal, (ahead[0], ["fault"]), "fault")

    def fits(self, moves, goal, ahead, fault):
        numbers = [number for number, _ in moves]
        if len(set(numbers)) < len(numbers) or not all(is_register(number) for number in numbers):
            return False
        moved = {number: fault if source == ("fault",) else self.term(source) for number, source in moves}
        if None in moved.values():
            return False
        for (sort, number), target in self.maps[goal]:
            term = ahead[0][number] if sort == "box" else ahead[1][number]
            if moved.get(target, self.terms.get(target)) != term:
                return False
        return True
