"""A program done step by step."""

from sameworth.blocks import leads_of
from sameworth.rows import is_meet

GREATEST = 10 ** 40
ROOMS = 6


def summed(one, other):
    return one + other


def lessened(one, other):
    return one - other


def product(one, other):
    return one * other


def tested_same(one, other):
    return 1 if one == other else 0


def tested_below(one, other):
    return 1 if one < other else 0


OF_TWO_ROWS = {
    "sum": summed,
    "less": lessened,
    "times": product,
    "same": tested_same,
    "below": tested_below,
}


def picked(things, number):
    """The thing at the place that a number picks."""
    return things[number % len(things)]


def is_too_great(worth):
    """Whether a row's worth, None of rows without one, is beyond what runs go on with."""
    return worth is not None and not -GREATEST <= worth <= GREATEST


class Machine:
    """One run of a program: what is done, told and come to so far."""

    def __init__(self, program, takes, most):
        self.program = program
        self.takes = takes
        self.most = most
        self.leads = leads_of(program)
        self.begins = [0]
        for rows, end in program:
            self.begins.append(self.begins[-1] + len(rows))
        self.steps = 0
        self.lasts = [0] * self.begins[-1]
        self.rooms = [0] * ROOMS
        self.way = []
        self.told = []
        self.done = []

    def go_on(self):
        """Do the steps there are, from block 0 on; tells the state."""
        block = 0
        brought = []
        while self.steps < self.most:
            self.steps += 1
            self.way.append(block)
            state = self.do_rows(block, brought)
            if state != "done":
                return state
            end = self.program[block][1]
            if end[0] == "end":
                return "ended"
            lead = block
            block = self.block_behind(end)
            brought = self.brought_by(lead, block)
        return "going"

    def do_rows(self, block, brought):
        """Do a block's rows, its meets by what was brought there; tells "done" or the state they stop in."""
        for place, row in enumerate(self.program[block][0]):
            if self.steps == self.most:
                return "going"
            worth = brought[place] if is_meet(row) else self.worth_of(row)
            if is_too_great(worth):
                return "great"
            self.steps += 1
            self.do_row(self.begins[block] + place, row, worth)
        return "done"

    def brought_by(self, lead, block):
        """The worths for a block's meets, looked up at once as they may be one another's parts."""
        at = self.leads[block].index(lead)
        return [self.lasts[row[1][at]] for row in self.program[block][0] if is_meet(row)]

    def block_behind(self, end):
        if end[0] == "go":
            return end[1]
        return end[2] if self.lasts[end[1]] != 0 else end[3]

    def worth_of(self, row):
        """The worth that a row other than a meet would have; None of lay and tell."""
        word = row[0]
        if word == "take":
            return self.takes[row[1]]
        if word == "num":
            return row[1]
        if word == "pick":
            return self.lasts[picked(row[2], self.lasts[row[1]])]
        if word == "look":
            return self.rooms[picked(row[1], self.lasts[row[2]])]
        if word in OF_TWO_ROWS:
            reckon = OF_TWO_ROWS[word]
            return reckon(self.lasts[row[1]], self.lasts[row[2]])
        return None

    def do_row(self, number, row, worth):
        if row[0] == "lay":
            self.rooms[picked(row[1], self.lasts[row[2]])] = self.lasts[row[3]]
        elif row[0] == "tell":
            self.told.append(self.lasts[row[1]])
        else:
            self.lasts[number] = worth
        self.done.append((number, worth))
