"""Programs without rooms: what a room holds is borne by rows."""

from sameworth.blocks import leads_of, rows_of
from sameworth.numbering import numbers_of
from sameworth.programs import is_plain
from sameworth.rows import end_with_names, has_worth, is_meet, names_rooms, with_names


def roomless(program):
    """A tuple of a plain program that does the same, and the list of the rows that bear each row's worth."""
    if is_plain(program):
        return ([(list(rows), end) for rows, end in program], list(range(len(rows_of(program)))))
    making = Making(program)
    for block in range(len(program)):
        making.make_block(block)
    # Only now: a meet's part may stand further on.
    for block in range(len(program)):
        making.fill_meets(block)
    return (making.blocks_made(), making.bearers)


def numbers_with_rooms(program):
    """The list, for each row, of the least row whose bearer is alike with its own, None of lay and tell."""
    made, bearers = roomless(program)
    numbers = numbers_of(made)
    leasts = {}
    told = []
    for row, what in enumerate(rows_of(program)):
        told.append(leasts.setdefault(numbers[bearers[row]], row) if has_worth(what) else None)
    return told


def rooms_in(program):
    """The rising list of the rooms that a program names."""
    return sorted({room for row in rows_of(program) if names_rooms(row) for room in row[1]})


class Making:
    """A program without rooms, being made block by block; its meets are filled in at last.

    holds has, for each block so far, a dict from each room to the row that bears what it holds,
    at that block's end when the block is made.
    """

    def __init__(self, program):
        self.program = program
        self.leads = leads_of(program)
        self.named = rooms_in(program)
        self.rows = []
        self.begins = []
        self.bearers = []
        self.holds = []

    def make_block(self, block):
        self.begins.append(len(self.rows))
        inside = self.program[block][0]
        for row in inside:
            if is_meet(row):
                self.bearers.append(self.add_row(None))
        self.holds.append(self.held_at_begin(block))
        for row in inside:
            if not is_meet(row):
                self.bearers.append(self.bear(row, self.holds[block]))

    def add_row(self, row):
        self.rows.append(row)
        return len(self.rows) - 1

    def held_at_begin(self, block):
        leads = self.leads[block]
        if len(leads) == 1:
            # A block's one lead has a lesser number, so it's made.
            return dict(self.holds[leads[0]])
        if leads:
            return {room: self.add_row(None) for room in self.named}
        nought = self.add_row(("num", 0))
        return {room: nought for room in self.named}

    def bear(self, row, held):
        """Do what a row other than a meet does; tells its bearer."""
        if row[0] == "lay":
            self.lay_into(row, held)
            return None
        if row[0] == "look":
            parts = tuple([held[room] for room in row[1]])
            return self.add_pick(row[2], parts) if len(parts) > 1 else parts[0]
        return self.add_row(with_names(row, self.bearers))

    def add_pick(self, row, parts):
        return self.add_row(("pick", self.bearers[row], parts))

    def lay_into(self, row, held):
        rooms = row[1]
        laid = self.bearers[row[3]]
        if len(rooms) == 1:
            held[rooms[0]] = laid
            return
        for room in rooms:
            held[room] = self.add_pick(row[2], tuple([laid if other == room else held[room] for other in rooms]))

    def fill_meets(self, block):
        leads = self.leads[block]
        if len(leads) < 2:
            return
        meets = [with_names(row, self.bearers) for row in self.program[block][0] if is_meet(row)]
        for room in self.named:
            meets.append(("meet", tuple([self.holds[lead][room] for lead in leads])))
        begin = self.begins[block]
        self.rows[begin:begin + len(meets)] = meets

    def blocks_made(self):
        lasts = self.begins[1:] + [len(self.rows)]
        made = []
        for begin, last, (rows, end) in zip(self.begins, lasts, self.program):
            made.append((self.rows[begin:last], end_with_names(end, self.bearers)))
        return made
