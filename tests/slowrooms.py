"""Point 12 taken word by word: each row of what is made is known by what it's there for, and numbered at last.

A row of what is made is ("nought",), ("room", block, room), ("row", row), or ("laid", row, room).
"""

from tests import oracle


def roomless(program):
    rows, owners, leads = oracle.rows_in(program), oracle.owners_in(program), oracle.leads_of(program)
    named = sorted({room for row in rows if row[0] in ("look", "lay") for room in row[1]})
    if not named:
        return program, list(range(len(rows)))

    def numbers(block):
        return [number for number in range(len(rows)) if owners[number] == block]

    def held(room, block, ahead):
        """What a room holds in a block ahead of a row."""
        for number in reversed([number for number in numbers(block) if number < ahead]):
            row = rows[number]
            if row[0] == "lay" and room in row[1]:
                return bearer(row[3]) if len(row[1]) == 1 else ("laid", number, room)
        if block == 0:
            return ("nought",)
        return held(room, leads[block][0], 10 ** 9) if len(leads[block]) == 1 else ("room", block, room)

    def bearer(number):
        row = rows[number]
        if row[0] == "lay":
            return None
        if row[0] == "look" and len(row[1]) == 1:
            return held(row[1][0], owners[number], number)
        return ("row", number)

    def layout(block):
        inside = numbers(block)
        made = [("nought",)] if block == 0 else []
        made += [("row", number) for number in inside if rows[number][0] == "meet"]
        if len(leads[block]) > 1:
            made += [("room", block, room) for room in named]
        for number in inside:
            row = rows[number]
            if row[0] == "lay" and len(row[1]) > 1:
                made += [("laid", number, room) for room in row[1]]
            elif row[0] != "meet" and bearer(number) == ("row", number):
                made.append(("row", number))
        return made

    places = {key: place for place, key in enumerate(key for block in range(len(program)) for key in layout(block))}

    def at(number):
        return places[bearer(number)]

    def written(key):
        if key == ("nought",):
            return ("num", 0)
        if key[0] == "room":
            return ("meet", tuple(places[held(key[2], lead, 10 ** 9)] for lead in leads[key[1]]))
        row = rows[key[1]]
        if key[0] == "laid":
            before = places[held(key[2], owners[key[1]], key[1])]
            return ("pick", at(row[2]), tuple(at(row[3]) if room == key[2] else before for room in row[1]))
        if row[0] == "look":
            return ("pick", at(row[2]), tuple(places[held(room, owners[key[1]], key[1])] for room in row[1]))
        parts = []
        for part, kind in zip(row[1:], oracle.ROW_KINDS[row[0]]):
            parts.append(at(part) if kind == "r" else tuple(map(at, part)) if kind == "P" else part)
        return (row[0], *parts)

    made = []
    for block, (none, end) in enumerate(program):
        end = ("if", at(end[1]), *end[2:]) if end[0] == "if" else end
        made.append(([written(key) for key in layout(block)], end))
    return made, [places.get(bearer(number)) for number in range(len(rows))]
