"""The words of rows and ends, the kinds of their parts, and what they name."""

ROW_PARTS = {
    "take": ("place",),
    "num": ("number",),
    "sum": ("row", "row"),
    "less": ("row", "row"),
    "times": ("row", "row"),
    "same": ("row", "row"),
    "below": ("row", "row"),
    "pick": ("row", "parts"),
    "meet": ("parts",),
    "look": ("rooms", "row"),
    "lay": ("rooms", "row", "row"),
    "tell": ("row",),
}
END_PARTS = {
    "go": ("block",),
    "if": ("row", "block", "block"),
    "end": (),
}
WORTHLESS = ("lay", "tell")
OF_ROOMS = ("look", "lay")
RECKONINGS = ("sum", "less", "times", "same", "below", "pick", "look")


def has_worth(row):
    return row[0] not in WORTHLESS


def is_meet(row):
    return row[0] == "meet"


def is_reckoning(row):
    return row[0] in RECKONINGS


def names_rooms(row):
    return row[0] in OF_ROOMS


def rows_named(row):
    """The numbers of the rows that a row names, in order; of a meet its parts."""
    return numbers_in(row, ROW_PARTS[row[0]])


def rows_tested(end):
    """The numbers of the rows that an end names: one or none."""
    return numbers_in(end, END_PARTS[end[0]])


def numbers_in(thing, kinds):
    named = []
    for kind, part in zip(kinds, thing[1:]):
        if kind == "row":
            named.append(part)
        if kind == "parts":
            named.extend(part)
    return named


def with_names(row, bearers):
    """A row with each row that it names replaced by its bearer."""
    return renamed(row, ROW_PARTS[row[0]], bearers)


def end_with_names(end, bearers):
    """An end, likewise."""
    return renamed(end, END_PARTS[end[0]], bearers)


def renamed(thing, kinds, bearers):
    parts = []
    for kind, part in zip(kinds, thing[1:]):
        if kind == "row":
            parts.append(bearers[part])
        elif kind == "parts":
            parts.append(tuple([bearers[name] for name in part]))
        else:
            parts.append(part)
    return (thing[0], *parts)


def end_with_blocks(end, blocks):
    """An end with each block that it names replaced by the one that a dict has for it."""
    parts = [blocks[part] if kind == "block" else part for kind, part in zip(END_PARTS[end[0]], end[1:])]
    return (end[0], *parts)


def blocks_named(end):
    """The blocks that an end names, in order."""
    return [part for kind, part in zip(END_PARTS[end[0]], end[1:]) if kind == "block"]
