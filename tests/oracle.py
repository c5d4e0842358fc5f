"""The words of points 4 and 5 taken one by one, as plainly and slowly as can be."""

ROW_KINDS = {
    "take": "p", "num": "n", "sum": "rr", "less": "rr", "times": "rr", "same": "rr", "below": "rr",
    "pick": "rP", "meet": "P", "look": "Rr", "lay": "Rrr", "tell": "r",
}
END_KINDS = {"go": "b", "if": "rbb", "end": ""}


def rows_in(program):
    return [row for rows, end in program for row in rows]


def owners_in(program):
    """For each row its block."""
    return [block for block, (rows, end) in enumerate(program) for row in rows]


def with_worth(program):
    return [number for number, row in enumerate(rows_in(program)) if row[0] not in ("lay", "tell")]


def named_by(end):
    return {"go": end[1:], "if": end[2:], "end": ()}[end[0]]


def reached_without(program, left_out):
    """The blocks that some way comes to which doesn't have this block."""
    seen = set()
    todo = [] if left_out == 0 else [0]
    while todo:
        block = todo.pop()
        if block not in seen:
            seen.add(block)
            todo += [named for named in named_by(program[block][1]) if named != left_out]
    return seen


def above(program):
    lists = [[] for block in program]
    for block in range(len(program)):
        reached = reached_without(program, block)
        for other in range(len(program)):
            if other not in reached:
                lists[other].append(block)
    return lists


def leads_of(program):
    return [
        [lead for lead in range(len(program)) if block in named_by(program[lead][1])]
        for block in range(len(program))
    ]


def is_part(thing, kind):
    if kind in "pnrb":
        return type(thing) is int and (kind != "p" or thing in range(6))
    if type(thing) is not tuple or not thing or any(type(x) is not int for x in thing):
        return False
    return kind == "P" or len(thing) == len(set(thing) & set(range(6))) <= 4


def is_written_as(thing, kinds):
    if type(thing) is not tuple or len(thing) < 1 or type(thing[0]) is not str or thing[0] not in kinds:
        return False
    wanted = kinds[thing[0]]
    return len(thing) == len(wanted) + 1 and all(map(is_part, thing[1:], wanted))


def is_written(thing):
    if type(thing) is not list or not thing:
        return False
    for block in thing:
        if type(block) is not tuple or len(block) != 2 or type(block[0]) is not list:
            return False
        if not all(is_written_as(row, ROW_KINDS) for row in block[0]) or not is_written_as(block[1], END_KINDS):
            return False
    return True


def is_program(thing):
    if not is_written(thing):
        return False
    for rows, end in thing:
        named = named_by(end)
        if any(block not in range(1, len(thing)) for block in named) or len(set(named)) != len(named):
            return False
    leads = leads_of(thing)
    if any(min(leads[block], default=block) >= block for block in range(1, len(thing))):
        return False
    return rows_are_right(thing, leads)


def rows_are_right(program, leads):
    ways = above(program)
    places = [(block, at) for block, (rows, end) in enumerate(program) for at in range(len(rows))]

    def fine(row, block, at):
        if row not in range(len(places)):
            return False
        own, own_at = places[row]
        if program[own][0][own_at][0] in ("lay", "tell"):
            return False
        return own in ways[block] and (own != block or own_at < at)

    for block, (rows, end) in enumerate(program):
        for at, row in enumerate(rows):
            if row[0] == "meet":
                if len(leads[block]) < 2 or len(row[1]) != len(leads[block]):
                    return False
                if any(other[0] != "meet" for other in rows[:at]):
                    return False
                if not all(fine(part, lead, 10 ** 9) for part, lead in zip(row[1], leads[block])):
                    return False
                continue
            for part, kind in zip(row[1:], ROW_KINDS[row[0]]):
                named = part if kind == "P" else (part,) if kind == "r" else ()
                if not all(fine(name, block, at) for name in named):
                    return False
        if end[0] == "if" and not fine(end[1], block, len(rows)):
            return False
    return True
