"""Right programs, and plain ones."""

from sameworth.blocks import leads_of, owners_of, rows_of
from sameworth.rows import blocks_named, has_worth, is_meet, names_rooms, rows_named, rows_tested
from sameworth.shapes import is_written
from sameworth.ways import Ways


class Places:
    """Where the rows of a program stand; the program is written right, and its blocks are led to."""

    def __init__(self, program):
        self.rows = rows_of(program)
        self.owners = owners_of(program)
        self.leads = leads_of(program)
        self.ways = Ways(self.leads)

    def can_name(self, name, block, place):
        """Whether a number is that of a row with a worth that stands in a block ahead of a row's place."""
        if not 0 <= name < len(self.rows) or not has_worth(self.rows[name]):
            return False
        owner = self.owners[name]
        if owner == block:
            return name < place
        return self.ways.lies(owner, block)

    def can_name_all(self, names, block, place):
        return all(self.can_name(name, block, place) for name in names)

    def can_meet(self, parts, block):
        """Whether a meet of these parts can be in a block: each stands at its lead's end."""
        leads = self.leads[block]
        if len(leads) < 2 or len(parts) != len(leads):
            return False
        # All rows of a block are ahead of its end, so no place but the one behind all rows is asked for.
        behind = len(self.rows)
        return all(self.can_name(part, lead, behind) for part, lead in zip(parts, leads))


def is_program(thing):
    """Whether a thing is a right program, whatever its size and numbers."""
    return is_written(thing) and is_led(thing) and are_names_right(thing)


def is_led(program):
    """Whether ends name blocks that they may, and each block but 0 has a lead with a lesser number."""
    if not all(can_lead_to(blocks_named(end), len(program)) for rows, end in program):
        return False
    leads = leads_of(program)
    return all(any(lead < block for lead in leads[block]) for block in range(1, len(program)))


def can_lead_to(named, many):
    """Whether an end of a program of so many blocks may name these: unlike ones that are there, but 0."""
    return len(set(named)) == len(named) and all(0 < block < many for block in named)


def are_names_right(program):
    """Whether meets stand where they may, and each row that is named has a worth and stands there."""
    places = Places(program)
    begin = 0
    for block, (rows, end) in enumerate(program):
        if not are_meets_ahead(rows) or not are_rows_right(places, block, begin, rows):
            return False
        begin += len(rows)
        if not places.can_name_all(rows_tested(end), block, begin):
            return False
    return True


def are_meets_ahead(rows):
    others = False
    for row in rows:
        if is_meet(row) and others:
            return False
        others = not is_meet(row)
    return True


def are_rows_right(places, block, begin, rows):
    """Whether a block's rows, numbered from begin on, name what they may."""
    for place, row in enumerate(rows, start=begin):
        names = rows_named(row)
        right = places.can_meet(names, block) if is_meet(row) else places.can_name_all(names, block, place)
        if not right:
            return False
    return True


def is_plain(program):
    """Whether a program has neither look nor lay."""
    return not any(names_rooms(row) for row in rows_of(program))
