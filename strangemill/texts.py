"""The texts of units: how they are read, and how they are written."""

from strangemill.drafts import Draft
from strangemill.errors import BadLine
from strangemill.rows import leads_on


def read_unit(text):
    """The unit of a text; else it is refused with BadLine."""
    draft = Draft()
    for at, line in enumerate(text.split("\n")):
        if not draft.takes(at, line.split(" ")):
            raise BadLine(at)
    faults = draft.faults()
    if faults:
        raise BadLine(min(faults))
    return draft.finished()


def written(unit):
    """The text of a unit, in the one form in which it is written."""
    lines = kind_lines(unit) if unit[0] == "kind" else face_lines(unit)
    return "\n".join(lines)


def kind_lines(unit):
    """The lines of a kind."""
    _, name, above, faces, fields, ways = unit
    head = ["kind", name]
    if above != "":
        head += ["above", above]
    if faces:
        head += ["faces", *faces]
    lines = [" ".join(head)]
    lines += [" ".join(["field", *field]) for field in fields]
    for way in ways:
        lines += way_lines(way)
    return lines


def face_lines(unit):
    """The lines of a face."""
    _, name, signatures = unit
    return [f"face {name}"] + [signature_line(signature) for signature in signatures]


def signature_line(signature):
    """The line of a signature, by which a way begins, too."""
    name, takes, gives = signature
    return " ".join(["way", name, *takes, "gives", gives])


def way_lines(way):
    """The lines of a way of a kind."""
    rows, entries, catches = way[3:]
    heights = dict(entries)
    ends = [row for catch in catches for row in catch[:2]]
    lines = [signature_line(way[:3])]
    lines += [f"catch {label(first)} {label(end)} {label(at)}" for first, end, at in catches]
    for at in range(len(rows) + 1):
        if at in heights:
            lines.append(f"at {label(at)} {heights[at]}")
        elif at in ends:
            lines.append(f"mark {label(at)}")
        if at < len(rows):
            lines.append(row_line(rows[at]))
    return lines


def label(row):
    """The label ahead of the row of that number."""
    return f"r{row}"


def row_line(row):
    """The line of a row."""
    if leads_on(row):
        return f"{row[0]} {label(row[1])}"
    return " ".join([str(part) for part in row])
