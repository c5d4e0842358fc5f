"""Programs made anew without the reckonings whose worth is there, and the rows that bear each row's worth."""

from sameworth.blocks import rows_of
from sameworth.joins import Joins
from sameworth.rows import blocks_named, end_with_blocks, end_with_names, is_meet, is_reckoning
from sameworth.rows import rows_named, rows_tested, with_names


def made_anew(program, there, copies):
    """A tuple of the program made anew, and the list of the rows of it that bear each row's worth.

    Reckonings are left out where their worth is there. copies is a dict from leads, pairs of a block
    and one behind it, to lists of rows: on such a lead a new block comes in that does these rows, too.
    """
    anew = Anew(program, there, copies)
    anew.find_bearers()
    anew.give_numbers()
    return (anew.blocks_made(), [anew.number_made(place) for place in anew.bears])


def layout_of(program, copies):
    """The blocks of what is made, in order: (block, None), and behind it (block, other) for each lead with copies."""
    layout = []
    for block in range(len(program)):
        layout.append((block, None))
        # Straight behind the block, so that it has a lesser number than its lead's end, and leads keep their order.
        layout.extend(sorted([lead for lead in copies if lead[0] == block]))
    return layout


class Anew:
    """A program being made anew.

    kept has, for each of its blocks, the list of the program's rows that it has; what else it has are
    joins. Rows are known by their places, as joins.py tells, until all are found and can be numbered.
    """

    def __init__(self, program, there, copies):
        self.program = program
        self.rows = rows_of(program)
        self.there = there
        self.layout = layout_of(program, copies)
        self.blocks = {lead: block for block, lead in enumerate(self.layout)}
        self.kept = [copies[lead] if lead in copies else self.rows_left(lead[0]) for lead in self.layout]
        worths = [[there.leasts[row] for row in entries] for entries in self.kept]
        self.joins = Joins([self.leads_made(lead) for lead in self.layout], worths)
        self.bears = []
        self.names = {}
        self.order = []
        self.numbered = {}

    def rows_left(self, block):
        """The list of a block's rows but the reckonings that are left out."""
        inside = [row for row, owner in enumerate(self.there.owners) if owner == block]
        return [row for row in inside if not is_reckoning(self.rows[row]) or not self.there.at_row(row)]

    def leads_made(self, lead):
        """The list of the leads of a block of what is made."""
        block, other = lead
        if other is not None:
            return [self.blocks[block, None]]
        return [self.blocks.get((ahead, block), self.blocks[ahead, None]) for ahead in self.there.leads[block]]

    def find_bearers(self):
        for row in range(len(self.rows)):
            self.bears.append(self.place_of(row))
        for block, (ahead, other) in enumerate(self.layout):
            if other is not None:
                for at in range(len(self.kept[block])):
                    self.find_names(block, at)
        self.joins.settle()

    def place_of(self, row):
        """The place of the row that bears a row's worth: itself, where it's left."""
        block = self.blocks[self.there.owners[row], None]
        entries = self.kept[block]
        if row in entries:
            return ("row", block, entries.index(row))
        ahead = [entry for entry in entries if entry < row]
        return self.joins.found(self.there.leasts[row], block, len(ahead))

    def find_names(self, block, at):
        """Find the rows that bear what a copy names, where it is done."""
        for name in rows_named(self.rows[self.kept[block][at]]):
            self.names[block, at, name] = self.joins.found(self.there.leasts[name], block, at)

    def give_numbers(self):
        for block, entries in enumerate(self.kept):
            meets = [at for at, row in enumerate(entries) if is_meet(self.rows[row])]
            others = [at for at, row in enumerate(entries) if not is_meet(self.rows[row])]
            order = [("row", block, at) for at in meets] + self.joins.joins_in(block)
            order.extend([("row", block, at) for at in others])
            self.order.append(order)
            for place in order:
                self.numbered[place] = len(self.numbered)

    def number_made(self, place):
        return self.numbered[self.joins.settled(place)]

    def blocks_made(self):
        made = []
        for block, order in enumerate(self.order):
            made.append(([self.row_made(place) for place in order], self.end_made(self.layout[block])))
        return made

    def row_made(self, place):
        word, block, at = place
        if word == "join":
            return ("meet", tuple([self.number_made(part) for part in self.joins.brought[place]]))
        row = self.rows[self.kept[block][at]]
        bearers = {}
        for name in rows_named(row):
            bearers[name] = self.number_made(self.names.get((block, at, name), self.bears[name]))
        return with_names(row, bearers)

    def end_made(self, lead):
        block, other = lead
        if other is not None:
            return ("go", self.blocks[other, None])
        end = self.program[block][1]
        behind = {}
        for named in blocks_named(end):
            behind[named] = self.blocks.get((block, named), self.blocks[named, None])
        bearers = {name: self.number_made(self.bears[name]) for name in rows_tested(end)}
        return end_with_blocks(end_with_names(end, bearers), behind)
