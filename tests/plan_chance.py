"""Plans by chance: plans that hold written otherwise, and plans with a thing otherwise."""


def paths(thing, ahead=()):
    """The way to each part of a plan."""
    if isinstance(thing, (list, tuple)):
        for at, part in enumerate(thing):
            yield ahead + (at,)
            yield from paths(part, ahead + (at,))


def at_path(thing, path):
    for at in path:
        thing = thing[at]
    return thing


def with_other(thing, path, act):
    """The plan with what act makes of the part at the end of the path."""
    if not path:
        return act(thing)
    parts = list(thing)
    parts[path[0]] = with_other(parts[path[0]], path[1:], act)
    return parts if isinstance(thing, list) else tuple(parts)


def other_part(chance, part):
    """Another part in the place of one, of the same form."""
    if isinstance(part, bool) or part is None:
        return chance.randint(0, 15)
    if isinstance(part, int):
        return chance.choice((part + 1, part - 1, chance.randint(-1, 16), chance.randint(0, 15), 1000000000000, -10 ** 30))
    if isinstance(part, str):
        return chance.choice(("reg", "num", "box", "stack", "set", "do", "nought", "to", "give", "throw", "fault", ""))
    if isinstance(part, list):
        parts = list(part)
        at = chance.randint(0, len(parts))
        sort = chance.randint(0, 3)
        if sort == 0 and at < len(parts):
            parts.pop(at)
        elif sort == 1 and at < len(parts):
            parts.insert(chance.randint(0, len(parts)), parts[at])
        elif sort == 2:
            chance.shuffle(parts)
        elif at < len(parts) and parts:
            parts[at] = chance.choice(parts)
        return parts
    if len(part) in (1, 2) and part[0] in ("reg", "num", "fault"):
        return chance.choice((("reg", chance.randint(0, 15)), ("num", chance.randint(-1, 3)), ("fault",)))
    return part


def mutated(chance, plan):
    """The plan with one thing otherwise; it may be the same by chance."""
    return with_other(plan, chance.choice(list(paths(plan))), lambda part: other_part(chance, part))


def renamed(plan, numbers):
    """The plan with other registers, by a list of sixteen numbers."""
    def source(told):
        return ("reg", numbers[told[1]]) if told[0] == "reg" else told

    def moves(told):
        return [(numbers[number], source(one)) for number, one in told]

    def step(told):
        if told[0] == "set":
            return ("set", numbers[told[1]], source(told[2]))
        if told[0] == "do":
            return ("do", told[1], [source(one) for one in told[2]], None if told[3] is None else numbers[told[3]],
                    moves(told[4]), [(place, source(one)) for place, one in told[5]])
        if told[0] == "nought":
            return ("nought", source(told[1]), told[2], moves(told[3]))
        if told[0] == "to":
            return ("to", told[1], moves(told[2]))
        return (told[0], source(told[1])) + tuple(moves(one) for one in told[2:])

    return [(entry, [(place, numbers[number]) for place, number in pairs], [step(one) for one in steps])
            for entry, pairs, steps in plan]


def other_plan(chance, house, kind, way, plan, holds):
    """A plan that holds, written otherwise: other registers, and steps more where it still holds."""
    numbers = list(range(16))
    chance.shuffle(numbers)
    plan = renamed(plan, numbers)
    rows = house.body(kind, way)[1][3]
    for _ in range(6):
        block = chance.randrange(len(plan))
        entry, pairs, steps = plan[block]
        steps = list(steps)
        at = chance.randrange(len(steps))
        quiet = [step for step in steps if step[0] == "do" and rows[step[1]][0] in ("plus", "minus", "times", "same")]
        if quiet and chance.random() < 0.5:
            step = chance.choice(quiet)
            if chance.random() < 0.5:
                steps.remove(step)
            steps.insert(at, step[:3] + (chance.randint(0, 15),) + step[4:])
        else:
            source = chance.choice((("reg", chance.randint(0, 15)), ("num", chance.randint(-1, 3))))
            steps.insert(at, ("set", chance.randint(0, 15), source))
        told = plan[:block] + [(entry, pairs, steps)] + plan[block + 1:]
        if holds(house, kind, way, told):
            plan = told
    return plan
